"""Notes: why one is refused, how one is made of what is given, and by which asks it goes along."""

from notejar.asks import ASK_HOUSE, ASK_PATH, ASK_SAFE, LAST_MOMENT
from notejar.asks import comes_from_near, is_moment, is_moment_or_none, need_ask, need_moment
from notejar.errors import NoNote
from notejar.giving import GIVEN_HOUSE, GIVEN_LASTS, GIVEN_NAME, GIVEN_PATH, GIVEN_REACH, GIVEN_SAFE, GIVEN_UNTIL
from notejar.giving import GIVEN_WORTH, is_note_name, is_reach, is_worth, need_given
from notejar.kinds import is_tuple_of
from notejar.names import find_open_end, is_name, lies_within, need_table
from notejar.paths import folder, is_path, lies_under

# The places of a note's parts.
NOTE_NAME = 0
NOTE_WORTH = 1
NOTE_HOUSE = 2
NOTE_EXACT = 3
NOTE_PATH = 4
NOTE_ENDS = 5
NOTE_SAFE = 6
NOTE_REACH = 7
NOTE_MADE = 8
NOTE_USED = 9
NOTE_PARTS = 10


def is_open(table, house):
    return find_open_end(table, house) == house


def is_exact(table, ask, given):
    house = given[GIVEN_HOUSE]
    if house is None:
        return True
    return house == ask[ASK_HOUSE] and is_open(table, house)


def keeps_its_mark(table, ask, given):
    name = given[GIVEN_NAME]
    if name.startswith("safe-"):
        return given[GIVEN_SAFE]
    if name.startswith("own-"):
        return given[GIVEN_SAFE] and is_exact(table, ask, given) and given[GIVEN_PATH] == "/"
    return True


def why_refused(table, ask, given):
    need_table(table)
    need_ask(ask)
    need_given(given)
    house = given[GIVEN_HOUSE]
    if house is not None and not lies_within(ask[ASK_HOUSE], house):
        return "foreign"
    if house is not None and house != ask[ASK_HOUSE] and is_open(table, house):
        return "open"
    if given[GIVEN_SAFE] and not ask[ASK_SAFE]:
        return "unsafe"
    if not keeps_its_mark(table, ask, given):
        return "marked"
    if given[GIVEN_REACH] == "near" and not comes_from_near(table, ask):
        return "far"
    return None


def is_note(thing):
    if not is_tuple_of(thing, NOTE_PARTS):
        return False
    # Only moments can be held against one another, so these two are looked at ahead of their order.
    if not is_moment(thing[NOTE_MADE]) or not is_moment(thing[NOTE_USED]):
        return False
    return all([
        is_note_name(thing[NOTE_NAME]),
        is_worth(thing[NOTE_WORTH]),
        is_name(thing[NOTE_HOUSE]),
        isinstance(thing[NOTE_EXACT], bool),
        is_path(thing[NOTE_PATH]),
        is_moment_or_none(thing[NOTE_ENDS]),
        isinstance(thing[NOTE_SAFE], bool),
        is_reach(thing[NOTE_REACH]),
        thing[NOTE_MADE] <= thing[NOTE_USED],
    ])


def house_for(ask, given):
    if given[GIVEN_HOUSE] is None:
        return ask[ASK_HOUSE]
    return given[GIVEN_HOUSE]


def path_for(ask, given):
    if given[GIVEN_PATH] is None:
        return folder(ask[ASK_PATH])
    return given[GIVEN_PATH]


def end_for(given, now):
    if given[GIVEN_LASTS] is None:
        return given[GIVEN_UNTIL]
    return min(now + given[GIVEN_LASTS], LAST_MOMENT)


def made(table, ask, given, now):
    need_table(table)
    need_ask(ask)
    need_given(given)
    need_moment(now)
    if why_refused(table, ask, given) is not None:
        raise NoNote("this may not be given by this ask")
    return (
        given[GIVEN_NAME],
        given[GIVEN_WORTH],
        house_for(ask, given),
        is_exact(table, ask, given),
        path_for(ask, given),
        end_for(given, now),
        given[GIVEN_SAFE],
        given[GIVEN_REACH],
        now,
        now,
    )


def key(note):
    return (note[NOTE_NAME], note[NOTE_HOUSE], note[NOTE_PATH])


def has_ended(note, now):
    return note[NOTE_ENDS] is not None and note[NOTE_ENDS] <= now


def is_for(note, house):
    if note[NOTE_EXACT]:
        return note[NOTE_HOUSE] == house
    return lies_within(house, note[NOTE_HOUSE])


def goes(table, note, ask, now):
    if has_ended(note, now) or not is_for(note, ask[ASK_HOUSE]):
        return False
    if not lies_under(ask[ASK_PATH], note[NOTE_PATH]):
        return False
    if note[NOTE_SAFE] and not ask[ASK_SAFE]:
        return False
    return note[NOTE_REACH] == "any" or comes_from_near(table, ask)
