"""Things of every kind that a caller may hand in, and some ways to ask about them."""


def nested(thing, deep, kind):
    for level in range(deep):
        thing = kind((thing,))
    return thing


def any_things():
    """Whole numbers, truths, None, texts, lists and tuples of such, up to ten deep."""
    flat = [0, 1, -1, 7, 9999, 10 ** 5000, -(10 ** 5000), True, False, None,
            "", " ", "a", "a.b", "*", "*.a", "!", "!a", "!a.b", "/", "/a", "A", ".", "..", "\n", "\0",
            "a" * 500, "/" * 500, "a." * 500, "\u00e9", "\u0661", "\ud800", "\U0001f3fa"]
    things = list(flat)
    for thing in flat:
        things += [[thing], (thing,), [thing, thing], (thing, thing), ("a", thing), (thing, "a"), ("a", thing, "b")]
        things += [nested(thing, 10, list), nested(thing, 10, tuple), ("a", nested(thing, 9, list))]
        things += [(nested(thing, 9, tuple), "a"), [nested(thing, 4, tuple), nested(thing, 4, list)]]
    return things + [[], (), [[]], ((),), ([],), [()], list(flat), tuple(flat), tuple([[thing] for thing in flat])]


def copied(thing):
    if isinstance(thing, list):
        return [copied(part) for part in thing]
    if isinstance(thing, tuple):
        return tuple([copied(part) for part in thing])
    return thing


def refusal(call, *handed):
    """The class with which the call refuses, or None."""
    try:
        call(*handed)
    except Exception as error:
        return type(error)
    return None
