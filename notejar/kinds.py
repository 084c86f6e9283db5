"""What several modules ask of a thing of any kind."""


def is_text_of(thing, signs, least, most):
    if not isinstance(thing, str):
        return False
    if len(thing) < least or len(thing) > most:
        return False
    return all([sign in signs for sign in thing])


def is_whole_number(thing, least, most):
    # Python counts a truth as an int, the document doesn't count it as a whole number.
    if not isinstance(thing, int) or isinstance(thing, bool):
        return False
    return least <= thing and thing <= most


def is_tuple_of(thing, parts):
    return isinstance(thing, tuple) and len(thing) == parts
