"""What is looked for in a jar: by group, by end, and by asks."""

from notejar.asks import is_ask, need_moment
from notejar.errors import NoAsk
from notejar.jars import need_jar
from notejar.names import need_table
from notejar.notes import goes, has_ended, key
from notejar.room import group_of, groups

MOST_ASKS = 9


def by_group(table, jar):
    return [(counted[0], keys_of_group(table, jar, counted[0])) for counted in groups(table, jar)]


def keys_of_group(table, jar, group):
    return sorted([key(note) for note in jar if group_of(table, note) == group])


def ending(jar, now, far):
    need_jar(jar)
    need_moment(now)
    need_moment(far)
    return [note for note in jar if has_ended(note, now + far) and not has_ended(note, now)]


def is_list_of_asks(thing):
    if not isinstance(thing, list) or len(thing) > MOST_ASKS:
        return False
    return all([is_ask(part) for part in thing])


def along(table, jar, asks, now):
    need_table(table)
    need_jar(jar)
    if not is_list_of_asks(asks):
        raise NoAsk("this is no list of up to 9 asks")
    need_moment(now)
    return [(key(note), asks_of(table, note, asks, now)) for note in jar]


def asks_of(table, note, asks, now):
    return [number for number in range(len(asks)) if goes(table, note, asks[number], now)]
