"""Two jars: what has changed between them, and how they are put together."""

from notejar.jars import need_jar, need_no_more_than_a_jar_has
from notejar.notes import NOTE_MADE, NOTE_USED, key


def changed(one, other):
    need_jar(one)
    need_jar(other)
    ones = [key(note) for note in one]
    others = [key(note) for note in other]
    gone = sorted([which for which in ones if which not in others])
    new = sorted([which for which in others if which not in ones])
    unlike = sorted([key(note) for note in one if key(note) in others and note not in other])
    return (gone, new, unlike)


def merged(one, other):
    need_jar(one)
    need_jar(other)
    chosen = {}
    for note in one:
        chosen[key(note)] = note
    for note in other:
        chosen[key(note)] = later_of(chosen.get(key(note), note), note)
    notes = sorted(chosen.values(), key=place_of)
    need_no_more_than_a_jar_has(notes)
    return tuple(notes)


def place_of(note):
    return (note[NOTE_MADE], key(note))


def later_of(mine, its):
    if when_last(its) > when_last(mine):
        return its
    return mine


def when_last(note):
    return (note[NOTE_USED], note[NOTE_MADE])
