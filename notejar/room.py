"""Room: the groups of a jar's notes, and which notes are dropped where there are too many."""

from notejar.errors import NoNumber
from notejar.jars import need_jar
from notejar.kinds import is_whole_number
from notejar.names import find_own_end, need_table
from notejar.notes import NOTE_HOUSE, NOTE_SAFE, NOTE_USED

LARGEST_ROOM = 20


def need_room(thing):
    if not is_whole_number(thing, 0, LARGEST_ROOM):
        raise NoNumber("this is no room")


def group_of(table, note):
    own = find_own_end(table, note[NOTE_HOUSE])
    if own is None:
        return note[NOTE_HOUSE]
    return own


def groups(table, jar):
    need_table(table)
    need_jar(jar)
    names = [group_of(table, note) for note in jar]
    return [(group, names.count(group)) for group in sorted(set(names))]


def fitted(table, jar, each, most):
    need_table(table)
    need_jar(jar)
    need_room(each)
    need_room(most)
    return fit(table, jar, each, most)


# It refuses nothing: it also serves where there is one note more than a jar has.
def fit(table, notes, each, most):
    left = notes
    for group in sorted(set([group_of(table, note) for note in notes])):
        members = [note for note in notes if group_of(table, note) == group]
        left = without(left, too_many(members, each))
    return without(left, too_many(left, most))


def too_many(notes, room):
    """Those for which there is no room, as few as can be."""
    # Sorting leaves those of one rank as they stood, which is their order in the jar.
    in_order = sorted(notes, key=rank)
    return in_order[:max(len(notes) - room, 0)]


def rank(note):
    return (note[NOTE_SAFE], note[NOTE_USED])


def without(notes, dropped):
    return tuple([note for note in notes if note not in dropped])
