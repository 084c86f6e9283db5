"""Paths, their folders, and which path is under which."""

from notejar.errors import NoPath
from notejar.kinds import is_text_of

PATH_SIGNS = "abcdefghijklmnopqrstuvwxyz0123456789-_./"
LONGEST_PATH = 20


def is_path(thing):
    return is_text_of(thing, PATH_SIGNS, 1, LONGEST_PATH) and thing.startswith("/")


def need_path(thing):
    if not is_path(thing):
        raise NoPath("this is no path")


def folder(path):
    need_path(path)
    place = path.rfind("/")
    if place == 0:
        return "/"
    return path[:place]


def under(path, top):
    need_path(path)
    need_path(top)
    return lies_under(path, top)


# It refuses nothing: it also serves functions of which no refusal is told.
def lies_under(path, top):
    if path == top:
        return True
    if not path.startswith(top):
        return False
    return top.endswith("/") or path[len(top)] == "/"
