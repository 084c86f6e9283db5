"""What can be given, and the texts that give it."""

from notejar.asks import is_moment_or_none
from notejar.errors import NoNote
from notejar.kinds import is_text_of, is_tuple_of
from notejar.names import FIGURES, is_name
from notejar.paths import is_path

NOTE_NAME_SIGNS = "abcdefghijklmnopqrstuvwxyzABCDEFGHIJKLMNOPQRSTUVWXYZ0123456789-_"
LONGEST_NOTE_NAME = 10
NO_WORTH_SIGNS = ";,="
LONGEST_WORTH = 12
MOST_FIGURES = 4

# The places of the parts of what is given.
GIVEN_NAME = 0
GIVEN_WORTH = 1
GIVEN_HOUSE = 2
GIVEN_PATH = 3
GIVEN_UNTIL = 4
GIVEN_LASTS = 5
GIVEN_SAFE = 6
GIVEN_REACH = 7
GIVEN_PARTS = 8


def is_note_name(thing):
    return is_text_of(thing, NOTE_NAME_SIGNS, 1, LONGEST_NOTE_NAME)


def is_worth(thing):
    if not isinstance(thing, str) or len(thing) > LONGEST_WORTH:
        return False
    return all(["!" <= sign and sign <= "~" and sign not in NO_WORTH_SIGNS for sign in thing])


def is_reach(thing):
    return thing == "any" or thing == "near"


def is_given(thing):
    if not is_tuple_of(thing, GIVEN_PARTS):
        return False
    return all([
        is_note_name(thing[GIVEN_NAME]),
        is_worth(thing[GIVEN_WORTH]),
        thing[GIVEN_HOUSE] is None or is_name(thing[GIVEN_HOUSE]),
        thing[GIVEN_PATH] is None or is_path(thing[GIVEN_PATH]),
        is_moment_or_none(thing[GIVEN_UNTIL]),
        is_moment_or_none(thing[GIVEN_LASTS]),
        isinstance(thing[GIVEN_SAFE], bool),
        is_reach(thing[GIVEN_REACH]),
    ])


def need_given(thing):
    if not is_given(thing):
        raise NoNote("this can't be given")


def is_written_moment(text):
    return is_text_of(text, FIGURES, 1, MOST_FIGURES)


def what_is_told(part):
    """A place of what is given and what the part puts there; None, where it tells nothing."""
    if part == "safe":
        return (GIVEN_SAFE, True)
    if is_reach(part):
        return (GIVEN_REACH, part)
    pieces = part.partition(" ")
    word = pieces[0]
    rest = pieces[2]
    if word == "for" and is_name(rest):
        return (GIVEN_HOUSE, rest)
    if word == "under" and is_path(rest):
        return (GIVEN_PATH, rest)
    if word == "until" and is_written_moment(rest):
        return (GIVEN_UNTIL, int(rest))
    if word == "lasts" and is_written_moment(rest):
        return (GIVEN_LASTS, int(rest))
    return None


def read_given(text):
    if not isinstance(text, str):
        raise NoNote("this is no text")
    # A blank is the one sign, so tabs and line feeds stay.
    parts = [part.strip(" ") for part in text.split(";")]
    first = parts[0].partition("=")
    if first[1] == "" or not is_note_name(first[0]) or not is_worth(first[2]):
        raise NoNote("the first part is no note's name, = and worth")
    given = [first[0], first[2], None, None, None, None, False, "any"]
    for part in parts[1:]:
        told = what_is_told(part)
        if told is not None:
            given[told[0]] = told[1]
    return tuple(given)


def given_text(given):
    need_given(given)
    parts = [given[GIVEN_NAME] + "=" + given[GIVEN_WORTH]]
    if given[GIVEN_HOUSE] is not None:
        parts.append("for " + given[GIVEN_HOUSE])
    if given[GIVEN_PATH] is not None:
        parts.append("under " + given[GIVEN_PATH])
    if given[GIVEN_UNTIL] is not None:
        parts.append("until " + str(given[GIVEN_UNTIL]))
    if given[GIVEN_LASTS] is not None:
        parts.append("lasts " + str(given[GIVEN_LASTS]))
    if given[GIVEN_SAFE]:
        parts.append("safe")
    if given[GIVEN_REACH] == "near":
        parts.append("near")
    return "; ".join(parts)
