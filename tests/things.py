"""Things of every kind that a caller may hand in, and some ways to ask about them."""

import itertools
import random

from notejar.errors import NoAsk, NoJar, NoName, NoNote, NoNumber, NoTable

EIGHT_RULES = ("!a.b", "*.c", "d", "e", "f", "g", "h", "i")
LONGEST_PATH = "/" + "a" * 19
WRONG_NAMES = ["", ".", "a.", ".a", "a..b", "a.b.c.d.e.f", "7", "a.7", "A", "a b", "a\n", "-a", "a-", "a.b-",
               "*.a", "!a.b", "aaaaaaaaa", "\u00e9", "a.\u0661", None, True, 1, ["a"], ("a",), ["a", "b"]]
WRONG_TABLES = [["a"], [], ("b", "a"), ("a", "a"), ("a", "c", "b"), ("a", 1), (1, "a"), (None,), (True,), (("a",),),
                ("!a",), ("*",), ("",), ("7",), EIGHT_RULES + ("j",), None, True, 0, "", "a", "a.b"]
WRONG_PATHS = ["", "a", "a/", " /", "/ ", "/a b", "/A", "/a\n", "\n/a", "/\u00e9", "/\u0661", "/a?", "/*", "\\",
               "/a" * 11, LONGEST_PATH + "a", None, True, 0, 1, ["/"], ("/",), ["/", "a"]]
WRONG_MOMENTS = [-1, 10000, -9999, 99999, True, False, None, "", "5", "now", [], [5], (), (5,)]
WRONG_TRUTHS = [0, 1, 2, None, "", "True", "safe", [], [True], (), (True,)]
WRONG_NOTE_NAMES = ["", "abcdefghijk", "a b", " a", "a ", "a.b", "a=", "a;", "a,", "a/", "a\n", "\u00e9", "\u0661", "\uff41",
                    None, True, 1, [], ["a"], ("a",), ["a", "b"]]
WRONG_WORTHS = ["abcdefghijklm", " ", "a b", " a", "a ", ";", "a;b", ",", "a,b", "=", "a=b", "\n", "a\n", "\t", "\0",
                "\x7f", "\x80", "\u00e9", "\u0661", "\U0001f3fa", None, True, False, 0, 5, [], ["a"], (), ("a",)]
WRONG_REACHES = ["", "Any", "NEAR", "far", "any ", " near", "an", "anynear", None, True, False, 0, 1, [], ["any"], ("near",)]
WRONG_ASKS = [(1, "a.b", "/", None), (None, "a.b", "/", None), (True, "A", "/", None), (True, None, "/", None),
              (True, "a.b", "a", None), (True, "a.b", None, None), (True, "a.b", "/", ""), (True, "a.b", "/", "7"),
              (True, "a.b", "/"), (True, "a.b", "/", None, None), [True, "a.b", "/", None], (), [], None, True, 0, "", "a.b"]
WRONG_GIVEN = [("", "5", None, None, None, None, False, "any"), ("n", "=", None, None, None, None, False, "any"),
               ("n", "5", "A", None, None, None, False, "any"), ("n", "5", None, "a", None, None, False, "any"),
               ("n", "5", None, None, True, None, False, "any"), ("n", "5", None, None, None, 10000, False, "any"),
               ("n", "5", None, None, None, None, 0, "any"), ("n", "5", None, None, None, None, False, "far"),
               ("n", "5", None, None, None, None, False), ("n", "5", None, None, None, None, False, "any", None),
               ["n", "5", None, None, None, None, False, "any"], (), [], None, True, 0, "", "n=5"]

WRONG_GIVEN_TEXTS = ["", " ", "n", "=5", "n=5=", "n=5,", "n =5", ";n=5", "\u00e9=5", "abcdefghijk=5", "n=abcdefghijklm",
               None, True, 0, 5, [], ["n=5"], (), ("n=5",)]


def a_note(name="n", worth="5", house="a.b", exact=False, path="/", ends=None, safe=False, reach="any", made=3, used=9):
    return (name, worth, house, exact, path, ends, safe, reach, made, used)


def an_ask(safe=True, house="a.b", path="/x/y", origin=None):
    return (safe, house, path, origin)


def numbered(count):
    """That many notes of unlike names, each made and used a moment behind the one ahead of it."""
    return tuple([a_note(name="n" + str(number), made=number, used=number) for number in range(count)])


WRONG_JARS = [numbered(21), [], [a_note()], (a_note(made=4), a_note(name="m", made=3)),
              (a_note(name="k", made=2), a_note(name="l", made=4), a_note(name="m", made=3)),
              (a_note(), a_note()), (a_note(), a_note(worth="6", ends=70, safe=True, made=4)),
              (a_note(), a_note(name="m"), a_note()), (a_note(), None), (None, a_note()), (a_note(), a_note(name="m")[:9]),
              (a_note() + (9,),), (list(a_note()),), (a_note(made=True),), (a_note(ends=False),), (a_note(made=10, used=9),),
              (("n", "5", None, None, None, None, False, "any"),), a_note(), ((a_note(),),), ((),), (1,), ("n=5",), (True,),
              None, True, False, 0, 1, "", "n", "n=5"]
WRONG_ASK_LISTS = [(), (an_ask(),), an_ask(), list(an_ask()), [an_ask()] * 10, [an_ask()] * 20, [None], [an_ask(), None],
                   [None, an_ask()], [an_ask(), an_ask()[:3]], [list(an_ask())], [[an_ask()]], [[]], [()], [(1, "a.b", "/", None)],
                   [an_ask(house="A")], [an_ask(path="x")], [an_ask(origin="")], [True], [0], [""], None, True, False, 0, 1, "",
                   "a.b"]
WRONG_ROOMS = [-1, 21, -20, 10000, True, False, None, "", "5", [], [5], (), (5,)]

# A sound one and some wrong ones, each with the refusal that is due for it.
TABLES = (((), None), (["a"], NoTable), (("b", "a"), NoTable))
NAMES = (("a.b", None), ("A", NoName), (None, NoName))
ASKS = ((an_ask(), None), (None, NoAsk), ((1, "a.b", "/", None), NoAsk))
ASK_LISTS = (([an_ask()], None), ((an_ask(),), NoAsk), ([an_ask(), None], NoAsk), ([an_ask()] * 10, NoAsk))
JARS = (((a_note(),), None), ([], NoJar), ((a_note(), a_note()), NoJar))
GIVEN_TEXTS = (("n=5", None), ("n", NoNote), (5, NoNote))
MOMENTS = ((9, None), (-1, NoNumber), (True, NoNumber))
ROOMS = ((5, None), (-1, NoNumber), (21, NoNumber), (None, NoNumber))


def nested(thing, deep, kind):
    for level in range(deep):
        thing = kind((thing,))
    return thing


def any_things():
    """Whole numbers, truths, None, texts, lists and tuples of such, up to ten deep."""
    flat = [0, 1, -1, 7, 9999, 10 ** 5000, -(10 ** 5000), True, False, None,
            "", " ", "a", "a.b", "*", "*.a", "!", "!a", "!a.b", "/", "/a", "A", ".", "..", "\n", "\0",
            "a" * 500, "/" * 500, "a." * 500, "\u00e9", "\u0661", "\ud800", "\U0001f3fa"]
    things = list(flat)
    for thing in flat:
        things += [[thing], (thing,), [thing, thing], (thing, thing), ("a", thing), (thing, "a"), ("a", thing, "b")]
        things += [nested(thing, 10, list), nested(thing, 10, tuple), ("a", nested(thing, 9, list))]
        things += [(nested(thing, 9, tuple), "a"), [nested(thing, 4, tuple), nested(thing, 4, list)]]
    return things + [[], (), [[]], ((),), ([],), [()], list(flat), tuple(flat), tuple([[thing] for thing in flat])]


def is_moment(thing):
    return type(thing) is int and 0 <= thing <= 9999


def copied(thing):
    if isinstance(thing, list):
        return [copied(part) for part in thing]
    if isinstance(thing, tuple):
        return tuple([copied(part) for part in thing])
    return thing


def with_part(whole, place, part):
    """The tuple with another part at this place."""
    return whole[:place] + (part,) + whole[place + 1:]


def refusal(call, *handed):
    """The class with which the call refuses, or None."""
    try:
        call(*handed)
    except Exception as error:
        return type(error)
    return None


def orders(*choices):
    """Of each of the choices one thing, in every way, and the first refusal that is due for them."""
    for parts in itertools.product(*choices):
        due = [part[1] for part in parts if part[1] is not None]
        yield [part[0] for part in parts], due[0] if due else None


def many(count):
    """Sources of choices, the same ones in each run."""
    return [random.Random(number) for number in range(count)]


def some_table(by):
    return by.choice(((), ("a.b",), ("!a.b", "*.b"), ("*.b", "d")))


def some_ask(by):
    return (by.random() < 0.6, by.choice(("a.b", "x.a.b", "c.d", "b")), by.choice(("/", "/x", "/x/y", "/xy")),
            by.choice((None, None, "a.b", "y.a.b", "c.d")))


def some_text(by):
    """A text that gives a note; none of those of some_jar are made later than 30."""
    parts = ("for a.b", "for x.a.b", "for c.d", "for b", "under /", "under /x", "under /x/y", "until 30", "until 31", "lasts 0",
             "lasts 9", "safe", "near")
    told = by.sample(parts, by.randrange(4))
    return "; ".join([by.choice(("k", "m", "n", "safe-s", "own-o")) + "=" + by.choice(("", "5", "!~"))] + told)


def some_note(by):
    made = by.randrange(20)
    return a_note(by.choice("kmno"), by.choice("567"), by.choice(("a.b", "x.a.b", "c.d", "d", "b")), by.random() < 0.5,
                  by.choice(("/", "/x", "/x/y")), by.choice((None, None, 29, 30, 31, 40)), by.random() < 0.5,
                  by.choice(("any", "near")), made, made + by.randrange(10))


def some_jar(by):
    """Up to 16 notes, so that two more still make a jar."""
    notes = {}
    for count in range(by.randrange(17)):
        note = some_note(by)
        notes.setdefault((note[0], note[2], note[4]), note)
    return tuple(sorted(notes.values(), key=lambda note: note[8]))
