"""What several modules ask of a thing of any kind."""


def is_text_of(thing, signs, least, most):
    if not isinstance(thing, str):
        return False
    if len(thing) < least or len(thing) > most:
        return False
    return all([sign in signs for sign in thing])
