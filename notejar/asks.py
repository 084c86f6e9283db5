"""Asks, the moments at which they come, and which of them are near."""

from notejar.errors import NoAsk, NoNumber
from notejar.kinds import is_tuple_of, is_whole_number
from notejar.names import find_own_end, is_name, need_table
from notejar.paths import is_path

LAST_MOMENT = 9999

# The places of an ask's parts.
ASK_SAFE = 0
ASK_HOUSE = 1
ASK_PATH = 2
ASK_ORIGIN = 3
ASK_PARTS = 4


def is_moment(thing):
    return is_whole_number(thing, 0, LAST_MOMENT)


def is_moment_or_none(thing):
    return thing is None or is_moment(thing)


def need_moment(thing):
    if not is_moment(thing):
        raise NoNumber("this is no moment")


def is_ask(thing):
    if not is_tuple_of(thing, ASK_PARTS):
        return False
    return all([
        isinstance(thing[ASK_SAFE], bool),
        is_name(thing[ASK_HOUSE]),
        is_path(thing[ASK_PATH]),
        thing[ASK_ORIGIN] is None or is_name(thing[ASK_ORIGIN]),
    ])


def need_ask(thing):
    if not is_ask(thing):
        raise NoAsk("this is no ask")


def is_near(table, ask):
    need_table(table)
    need_ask(ask)
    return comes_from_near(table, ask)


# It refuses nothing: it also serves functions of which no refusal is told.
def comes_from_near(table, ask):
    house = ask[ASK_HOUSE]
    origin = ask[ASK_ORIGIN]
    if origin is None or origin == house:
        return True
    own = find_own_end(table, house)
    return own is not None and own == find_own_end(table, origin)
