"""The refusals: each stands under JarError, none under another."""


class JarError(ValueError):
    pass


class NoName(JarError):
    pass


class NoTable(JarError):
    pass


class NoPath(JarError):
    pass


class NoAsk(JarError):
    pass


class NoNote(JarError):
    pass


class NoJar(JarError):
    pass


class NoNumber(JarError):
    pass


class NoText(JarError):
    pass


class NoStep(JarError):
    pass
