"""Things of every kind that a caller may hand in, and some ways to ask about them."""

EIGHT_RULES = ("!a.b", "*.c", "d", "e", "f", "g", "h", "i")
LONGEST_PATH = "/" + "a" * 19
WRONG_NAMES = ["", ".", "a.", ".a", "a..b", "a.b.c.d.e.f", "7", "a.7", "A", "a b", "a\n", "-a", "a-", "a.b-",
               "*.a", "!a.b", "aaaaaaaaa", "\u00e9", "a.\u0661", None, True, 1, ["a"], ("a",), ["a", "b"]]
WRONG_TABLES = [["a"], [], ("b", "a"), ("a", "a"), ("a", "c", "b"), ("a", 1), (1, "a"), (None,), (True,), (("a",),),
                ("!a",), ("*",), ("",), ("7",), EIGHT_RULES + ("j",), None, True, 0, "", "a", "a.b"]
WRONG_PATHS = ["", "a", "a/", " /", "/ ", "/a b", "/A", "/a\n", "\n/a", "/\u00e9", "/\u0661", "/a?", "/*", "\\",
               "/a" * 11, LONGEST_PATH + "a", None, True, 0, 1, ["/"], ("/",), ["/", "a"]]
WRONG_MOMENTS = [-1, 10000, -9999, 99999, True, False, None, "", "5", "now", [], [5], (), (5,)]
WRONG_TRUTHS = [0, 1, 2, None, "", "True", "safe", [], [True], (), (True,)]
WRONG_NOTE_NAMES = ["", "abcdefghijk", "a b", " a", "a ", "a.b", "a=", "a;", "a,", "a/", "a\n", "\u00e9", "\u0661", "\uff41",
                    None, True, 1, [], ["a"], ("a",), ["a", "b"]]
WRONG_WORTHS = ["abcdefghijklm", " ", "a b", " a", "a ", ";", "a;b", ",", "a,b", "=", "a=b", "\n", "a\n", "\t", "\0",
                "\x7f", "\x80", "\u00e9", "\u0661", "\U0001f3fa", None, True, False, 0, 5, [], ["a"], (), ("a",)]
WRONG_REACHES = ["", "Any", "NEAR", "far", "any ", " near", "an", "anynear", None, True, False, 0, 1, [], ["any"], ("near",)]
WRONG_ASKS = [(1, "a.b", "/", None), (None, "a.b", "/", None), (True, "A", "/", None), (True, None, "/", None),
              (True, "a.b", "a", None), (True, "a.b", None, None), (True, "a.b", "/", ""), (True, "a.b", "/", "7"),
              (True, "a.b", "/"), (True, "a.b", "/", None, None), [True, "a.b", "/", None], (), [], None, True, 0, "", "a.b"]
WRONG_GIVEN = [("", "5", None, None, None, None, False, "any"), ("n", "=", None, None, None, None, False, "any"),
               ("n", "5", "A", None, None, None, False, "any"), ("n", "5", None, "a", None, None, False, "any"),
               ("n", "5", None, None, True, None, False, "any"), ("n", "5", None, None, None, 10000, False, "any"),
               ("n", "5", None, None, None, None, 0, "any"), ("n", "5", None, None, None, None, False, "far"),
               ("n", "5", None, None, None, None, False), ("n", "5", None, None, None, None, False, "any", None),
               ["n", "5", None, None, None, None, False, "any"], (), [], None, True, 0, "", "n=5"]


def nested(thing, deep, kind):
    for level in range(deep):
        thing = kind((thing,))
    return thing


def any_things():
    """Whole numbers, truths, None, texts, lists and tuples of such, up to ten deep."""
    flat = [0, 1, -1, 7, 9999, 10 ** 5000, -(10 ** 5000), True, False, None,
            "", " ", "a", "a.b", "*", "*.a", "!", "!a", "!a.b", "/", "/a", "A", ".", "..", "\n", "\0",
            "a" * 500, "/" * 500, "a." * 500, "\u00e9", "\u0661", "\ud800", "\U0001f3fa"]
    things = list(flat)
    for thing in flat:
        things += [[thing], (thing,), [thing, thing], (thing, thing), ("a", thing), (thing, "a"), ("a", thing, "b")]
        things += [nested(thing, 10, list), nested(thing, 10, tuple), ("a", nested(thing, 9, list))]
        things += [(nested(thing, 9, tuple), "a"), [nested(thing, 4, tuple), nested(thing, 4, list)]]
    return things + [[], (), [[]], ((),), ([],), [()], list(flat), tuple(flat), tuple([[thing] for thing in flat])]


def copied(thing):
    if isinstance(thing, list):
        return [copied(part) for part in thing]
    if isinstance(thing, tuple):
        return tuple([copied(part) for part in thing])
    return thing


def with_part(whole, place, part):
    """The tuple with another part at this place."""
    return whole[:place] + (part,) + whole[place + 1:]


def refusal(call, *handed):
    """The class with which the call refuses, or None."""
    try:
        call(*handed)
    except Exception as error:
        return type(error)
    return None
