"""Names of houses, and the tables that tell which of their ends are open and which are their own."""

from notejar.errors import NoName, NoTable
from notejar.kinds import is_text_of

FIGURES = "0123456789"
LABEL_SIGNS = "abcdefghijklmnopqrstuvwxyz0123456789-"
LONGEST_LABEL = 8
MOST_LABELS = 5
MOST_RULES = 8


def is_label(thing):
    if not is_text_of(thing, LABEL_SIGNS, 1, LONGEST_LABEL):
        return False
    return not thing.startswith("-") and not thing.endswith("-")


def is_name(thing):
    if not isinstance(thing, str):
        return False
    parts = thing.split(".")
    if len(parts) > MOST_LABELS or not all([is_label(part) for part in parts]):
        return False
    return not is_text_of(parts[-1], FIGURES, 1, LONGEST_LABEL)


def is_rule(thing):
    if not isinstance(thing, str):
        return False
    if thing.startswith("*."):
        return is_name(thing[2:])
    if thing.startswith("!"):
        return "." in thing and is_name(thing[1:])
    return is_name(thing)


def is_table(thing):
    if not isinstance(thing, tuple) or len(thing) > MOST_RULES:
        return False
    # Only texts can be held against one another, so the rules are looked at ahead of their order.
    if not all([is_rule(part) for part in thing]):
        return False
    return all([thing[place - 1] < thing[place] for place in range(1, len(thing))])


# The refusals don't show what was refused: Python won't write out every whole number.
def need_name(thing):
    if not is_name(thing):
        raise NoName("this is no name")


def need_table(thing):
    if not is_table(thing):
        raise NoTable("this is no table")


def labels(name):
    need_name(name)
    return name.split(".")


def within(one, other):
    need_name(one)
    need_name(other)
    return lies_within(one, other)


# This one and those that find refuse nothing: they also serve functions of which no refusal is told.
def lies_within(one, other):
    return one == other or one.endswith("." + other)


def ends_longest_first(name):
    parts = name.split(".")
    return [".".join(parts[place:]) for place in range(len(parts))]


def behind_first_dot(end):
    return end.partition(".")[2]


def is_told_open(table, end):
    if end in table:
        return True
    return "." in end and "*." + behind_first_dot(end) in table


def open_end(table, name):
    need_table(table)
    need_name(name)
    return find_open_end(table, name)


def find_open_end(table, name):
    ends = ends_longest_first(name)
    for end in ends:
        if "!" + end in table:
            return behind_first_dot(end)
    for end in ends:
        if is_told_open(table, end):
            return end
    return ends[-1]


def own_end(table, name):
    need_table(table)
    need_name(name)
    return find_own_end(table, name)


def find_own_end(table, name):
    end = find_open_end(table, name)
    ends = ends_longest_first(name)
    place = ends.index(end)
    if place == 0:
        return None
    return ends[place - 1]
