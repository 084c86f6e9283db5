import string
import unittest

from notejar.errors import NoPath
from notejar.paths import folder, is_path, under
from things import LONGEST_PATH, WRONG_PATHS, refusal

SIGNS = string.ascii_lowercase + string.digits + "-_./"


class Paths(unittest.TestCase):
    def test_how_many_signs(self):
        for count in range(20):
            self.assertIs(is_path("/" + "a" * count), True, count)
            self.assertIs(is_path("/" * (count + 1)), True, count)
        for count in (20, 21, 300):
            self.assertIs(is_path("/" + "a" * count), False, count)
        self.assertIs(is_path(""), False)

    def test_the_first_sign(self):
        for code in range(0x3000):
            self.assertIs(is_path(chr(code)), chr(code) == "/", code)
            self.assertIs(is_path(chr(code) + "/a"), chr(code) == "/", code)

    def test_each_sign(self):
        for code in range(0x3000):
            for text in ("/" + chr(code), "/a" + chr(code) + "b", "/a/" + chr(code)):
                self.assertIs(is_path(text), chr(code) in SIGNS, repr(text))

    def test_wrong_paths(self):
        for thing in WRONG_PATHS:
            self.assertIs(is_path(thing), False, repr(thing))

    def test_folder(self):
        for path, told in (("/", "/"), ("/a", "/"), (LONGEST_PATH, "/"), ("/a/", "/a"), ("/a/b", "/a"),
                           ("/a/b/", "/a/b"), ("/a/b/c.d", "/a/b"), ("//", "/"), ("//a", "/"), ("/a//", "/a/"), ("/a//b", "/a/"),
                           ("///", "//"), ("/..", "/"), ("/a/..", "/a"), ("/" * 20, "/" * 19)):
            self.assertEqual(folder(path), told, path)

    def test_folder_refuses(self):
        for thing in WRONG_PATHS:
            self.assertIs(refusal(folder, thing), NoPath, repr(thing))

    def test_under(self):
        for path, top in (("/", "/"), ("/a", "/a"), ("/a/", "/a/"), ("/a", "/"), ("/a/b", "/"), ("/a/b", "/a"),
                          ("/a/b", "/a/"), ("/a/", "/a"), ("/a//b", "/a"), ("/a//b", "/a/"), ("//", "/"), ("//a", "//"),
                          ("/a/b/c", "/a/b"), (LONGEST_PATH, "/"), (LONGEST_PATH, LONGEST_PATH)):
            self.assertIs(under(path, top), True, (path, top))

    def test_not_under(self):
        for path, top in (("/ab", "/a"), ("/a.b", "/a"), ("/a-", "/a"), ("/a_/b", "/a"), ("/ab/", "/a"), ("/a", "/a/"),
                          ("/", "/a"), ("/a", "/a/b"), ("/b/a", "/a"), ("/a/b", "/b"), ("/ab", "/a/"), ("/a/b", "/a//"),
                          ("/a/bc", "/a/b"), ("/b", "/a"), ("/", LONGEST_PATH)):
            self.assertIs(under(path, top), False, (path, top))

    def test_only_a_bar_goes_on_behind_a_top(self):
        for sign in SIGNS:
            self.assertIs(under("/a" + sign, "/a"), sign == "/", sign)
            self.assertIs(under("/a/" + sign, "/a/"), True, sign)

    def test_under_refuses_at_either_place(self):
        for thing in WRONG_PATHS:
            self.assertIs(refusal(under, thing, "/"), NoPath, repr(thing))
            self.assertIs(refusal(under, "/", thing), NoPath, repr(thing))
            self.assertIs(refusal(under, thing, thing), NoPath, repr(thing))


if __name__ == "__main__":
    unittest.main()
