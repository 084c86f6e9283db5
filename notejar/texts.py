"""Texts: how a jar is written, and read back."""

from notejar.errors import NoText
from notejar.giving import is_written_moment
from notejar.jars import is_jar, need_jar
from notejar.notes import NOTE_ENDS, NOTE_EXACT, NOTE_HOUSE, NOTE_MADE, NOTE_NAME, NOTE_PATH, NOTE_REACH, NOTE_SAFE
from notejar.notes import NOTE_USED, NOTE_WORTH


def note_text(note):
    parts = [note[NOTE_NAME] + "=" + note[NOTE_WORTH]]
    parts.append(("only " if note[NOTE_EXACT] else "for ") + note[NOTE_HOUSE])
    parts.append("under " + note[NOTE_PATH])
    if note[NOTE_ENDS] is not None:
        parts.append("until " + str(note[NOTE_ENDS]))
    if note[NOTE_SAFE]:
        parts.append("safe")
    if note[NOTE_REACH] == "near":
        parts.append("near")
    parts.append("made " + str(note[NOTE_MADE]))
    parts.append("used " + str(note[NOTE_USED]))
    return "; ".join(parts) + "\n"


def jar_text(jar):
    need_jar(jar)
    return "".join([note_text(note) for note in jar])


def read_jar(text):
    if not isinstance(text, str):
        raise NoText("this is no text")
    jar = tuple([read_line(line) for line in text.split("\n")[:-1]])
    # The lines are read leniently: that the text is the writing of this jar is what tells.
    if not is_jar(jar) or jar_text(jar) != text:
        raise NoText("this is not the writing of a jar")
    return jar


def read_line(line):
    """The note of which this would be the line; no note, where the line is none."""
    parts = line.split("; ")
    first = parts[0].partition("=")
    note = [first[0], first[2], None, None, None, None, False, "any", None, None]
    for part in parts[1:]:
        for told in what_is_written(part):
            note[told[0]] = told[1]
    return tuple(note)


def what_is_written(part):
    """The places of a note of which the part tells, each with what stands there."""
    if part == "safe":
        return [(NOTE_SAFE, True)]
    if part == "near":
        return [(NOTE_REACH, part)]
    pieces = part.partition(" ")
    word = pieces[0]
    rest = pieces[2]
    if word == "only" or word == "for":
        return [(NOTE_HOUSE, rest), (NOTE_EXACT, word == "only")]
    if word == "under":
        return [(NOTE_PATH, rest)]
    if is_written_moment(rest):
        return written_moment(word, int(rest))
    return []


def written_moment(word, moment):
    if word == "until":
        return [(NOTE_ENDS, moment)]
    if word == "made":
        return [(NOTE_MADE, moment)]
    if word == "used":
        return [(NOTE_USED, moment)]
    return []
