"""What the document says of the whole: 0.2 (a), (b) and 0.3."""

import itertools
import unittest

from notejar.errors import JarError, NoName, NoPath, NoTable
from notejar.names import is_label, is_name, is_rule, is_table, labels, open_end, own_end, within
from notejar.paths import folder, is_path, under
from things import any_things, copied, refusal

ASKED = (is_label, is_name, is_rule, is_table, is_path)


def many_names(most):
    return [".".join(parts) for count in range(1, most + 1) for parts in itertools.product("ab", repeat=count)]


def many_tables():
    rules = many_names(3) + ["*." + name for name in many_names(2)] + ["!" + name for name in many_names(3)[2:]]
    rules = sorted(rules)
    return [table for count in range(3) for table in itertools.combinations(rules, count)]


def many_paths():
    return ["/" + "".join(signs) for count in range(5) for signs in itertools.product("/a.", repeat=count)]


def ends_of(name):
    """From the name itself down to its last label."""
    return [name] + [name[place + 1:] for place in range(len(name)) if name[place] == "."]


def told_open(table, name):
    """The open end, by the words of 1.2."""
    out = [end for end in ends_of(name) if "!" + end in table]
    if out:
        longest = max(out, key=len)
        return longest[longest.index(".") + 1:]
    told = [end for end in ends_of(name) if end in table or "*" + end[end.find("."):] in table and "." in end]
    return max(told, key=len) if told else name.split(".")[-1]


class EndsOfNames(unittest.TestCase):
    def test_open_and_own_ends(self):
        names = many_names(4)
        for table in many_tables():
            open_by_own = {}
            for name in names:
                open_one = open_end(table, name)
                own_one = own_end(table, name)
                self.assertEqual(open_one, told_open(table, name), (table, name))
                ends = ends_of(name)
                self.assertIn(open_one, ends, (table, name))
                if own_one is None:
                    self.assertEqual(open_one, name, (table, name))
                    continue
                self.assertIn(own_one, ends, (table, name))
                self.assertEqual(labels(own_one)[1:], labels(open_one), (table, name))
                self.assertEqual(open_by_own.setdefault(own_one, open_one), open_one, (table, name))


class WithinAndUnder(unittest.TestCase):
    def check_goes_on(self, call, things):
        above = {one: [other for other in things if call(one, other)] for one in things}
        for one in things:
            self.assertIn(one, above[one])
            for other in above[one]:
                for third in above[other]:
                    self.assertIn(third, above[one], (one, other, third))
        return above

    def test_under(self):
        paths = many_paths()
        above = self.check_goes_on(under, paths)
        for path in paths:
            self.assertIn("/", above[path])
            self.assertIn(folder(path), above[path])

    def test_within(self):
        names = many_names(5)
        above = self.check_goes_on(within, names)
        for name in names:
            self.assertEqual(sorted(above[name]), sorted(ends_of(name)))


class AnyThing(unittest.TestCase):
    def test_what_asks_answers_true_or_false(self):
        for call in ASKED:
            for thing in any_things():
                self.assertIn(call(thing), (True, False))
                self.assertIsInstance(call(thing), bool)

    def test_what_is_no_text_is_none_of_these(self):
        for thing in any_things():
            if not isinstance(thing, str):
                for call in (is_label, is_name, is_rule, is_path):
                    self.assertIs(call(thing), False)
            if not isinstance(thing, tuple):
                self.assertIs(is_table(thing), False)

    def test_names_are_refused_by_their_class(self):
        for thing in any_things():
            due = None if is_name(thing) else NoName
            self.assertIs(refusal(labels, thing), due)
            self.assertIs(refusal(within, thing, "a"), due)
            self.assertIs(refusal(within, "a", thing), due)
            self.assertIs(refusal(open_end, (), thing), due)
            self.assertIs(refusal(own_end, (), thing), due)

    def test_tables_are_refused_by_their_class_and_ahead_of_names(self):
        for thing in any_things():
            due = None if is_table(thing) else NoTable
            for call in (open_end, own_end):
                self.assertIs(refusal(call, thing, "a"), due)
                self.assertIs(refusal(call, thing, thing), due or NoName)

    def test_paths_are_refused_by_their_class(self):
        for thing in any_things():
            due = None if is_path(thing) else NoPath
            self.assertIs(refusal(folder, thing), due)
            self.assertIs(refusal(under, thing, "/"), due)
            self.assertIs(refusal(under, "/", thing), due)

    def test_all_refusals_are_jar_errors(self):
        for call, handed in ((labels, (1,)), (within, ("a", 1)), (open_end, (1, "a")), (own_end, ((), 1)),
                             (folder, (1,)), (under, ("/", 1))):
            with self.assertRaises(JarError):
                call(*handed)

    def test_what_is_handed_in_is_not_changed(self):
        for thing in any_things():
            kept = copied(thing)
            for call in ASKED + (labels, folder):
                refusal(call, thing)
            for call in (within, under, open_end, own_end):
                refusal(call, thing, thing)
            self.assertEqual(thing, kept)


class ToldLists(unittest.TestCase):
    def test_a_told_list_may_be_changed(self):
        name = "a.b.c"
        told = labels(name)
        told.append("d")
        told[0] = "x"
        self.assertEqual(labels(name), ["a", "b", "c"])
        labels(name).clear()
        self.assertEqual(labels(name), ["a", "b", "c"])
        self.assertEqual(own_end((), name), "b.c")
        self.assertIs(within(name, "b.c"), True)

    def test_a_told_list_is_a_new_one_each_time(self):
        self.assertIsNot(labels("a.b"), labels("a.b"))


if __name__ == "__main__":
    unittest.main()
