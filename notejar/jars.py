"""Jars: what is kept in them, what a text that gives a note does to them, and what goes along with an ask."""

from notejar.asks import ASK_SAFE, need_ask, need_moment
from notejar.errors import NoJar, NoNumber
from notejar.giving import read_given
from notejar.names import lies_within, need_name, need_table
from notejar.notes import NOTE_HOUSE, NOTE_MADE, NOTE_NAME, NOTE_PATH, NOTE_SAFE, NOTE_USED, NOTE_WORTH
from notejar.notes import goes, has_ended, is_note, key, made, why_refused
from notejar.paths import lies_under

MOST_NOTES = 20


def is_jar(thing):
    if not isinstance(thing, tuple) or len(thing) > MOST_NOTES:
        return False
    # Only notes have moments and keys, so they are looked at ahead of their order and their keys.
    if not all([is_note(part) for part in thing]):
        return False
    return is_by_made(thing) and has_no_key_twice(thing)


def is_by_made(notes):
    return all([notes[place - 1][NOTE_MADE] <= notes[place][NOTE_MADE] for place in range(1, len(notes))])


def has_no_key_twice(notes):
    keys = [key(note) for note in notes]
    return len(set(keys)) == len(keys)


def need_jar(thing):
    if not is_jar(thing):
        raise NoJar("this is no jar")


def need_no_more_than_a_jar_has(notes):
    if len(notes) > MOST_NOTES:
        raise NoJar("these are more notes than a jar has")


def swept(jar, now):
    need_jar(jar)
    need_moment(now)
    return without_ended(jar, now)


def without_ended(notes, now):
    return tuple([note for note in notes if not has_ended(note, now)])


def forgotten(jar, house):
    need_jar(jar)
    need_name(house)
    return tuple([note for note in jar if not lies_within(note[NOTE_HOUSE], house)])


def put(jar, note):
    same = [old for old in jar if key(old) == key(note)]
    if same == []:
        return jar + (note,)
    newer = note[:NOTE_MADE] + (same[0][NOTE_MADE],) + note[NOTE_MADE + 1:]
    return tuple([newer if key(old) == key(note) else old for old in jar])


def read_what_is_given(table, jar, ask, text, now):
    """What the text gives, behind all the refusals of verdict in their order."""
    need_table(table)
    need_jar(jar)
    need_ask(ask)
    given = read_given(text)
    need_moment(now)
    return given


def verdict(table, jar, ask, text, now):
    given = read_what_is_given(table, jar, ask, text, now)
    return word_of(table, jar, ask, given, now)


def word_of(table, jar, ask, given, now):
    refused = why_refused(table, ask, given)
    if refused is not None:
        return refused
    note = made(table, ask, given, now)
    if not ask[ASK_SAFE] and any([shadows(old, note, now) for old in jar]):
        return "shadowed"
    if has_ended(note, now):
        return "gone"
    return "kept"


def shadows(old, note, now):
    if not old[NOTE_SAFE] or has_ended(old, now) or old[NOTE_NAME] != note[NOTE_NAME]:
        return False
    if not lies_within(note[NOTE_HOUSE], old[NOTE_HOUSE]) and not lies_within(old[NOTE_HOUSE], note[NOTE_HOUSE]):
        return False
    return lies_under(note[NOTE_PATH], old[NOTE_PATH])


def taken(table, jar, ask, text, now):
    given = read_what_is_given(table, jar, ask, text, now)
    if any([note[NOTE_USED] > now for note in jar]):
        raise NoNumber("some note was used later than this moment")
    notes = take_in(table, jar, ask, given, now)
    need_no_more_than_a_jar_has(notes)
    return notes


# It looks at no limit: whoever makes room behind it may have one note more for a moment.
def take_in(table, jar, ask, given, now):
    word = word_of(table, jar, ask, given, now)
    notes = without_ended(jar, now)
    if word == "kept":
        return put(notes, made(table, ask, given, now))
    if word == "gone":
        ended = key(made(table, ask, given, now))
        return tuple([note for note in notes if key(note) != ended])
    return notes


def need_sending(table, jar, ask, now):
    need_table(table)
    need_jar(jar)
    need_ask(ask)
    need_moment(now)


def sent(table, jar, ask, now):
    need_sending(table, jar, ask, now)
    going = [note for note in jar if goes(table, note, ask, now)]
    return sorted(going, key=lambda note: -len(note[NOTE_PATH]))


def sent_text(table, jar, ask, now):
    return "; ".join([note[NOTE_NAME] + "=" + note[NOTE_WORTH] for note in sent(table, jar, ask, now)])


def used(table, jar, ask, now):
    need_sending(table, jar, ask, now)
    return tuple([used_at(note, now) if goes(table, note, ask, now) else note for note in jar])


def used_at(note, now):
    return note[:NOTE_USED] + (max(note[NOTE_USED], now),)
