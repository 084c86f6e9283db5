"""What the document says of the whole: 0.2 (a), (b), (c) and (e), as far as it is built, and 0.3."""

import itertools
import unittest

from notejar.asks import is_ask, is_near
from notejar.errors import JarError, NoAsk, NoName, NoNote, NoNumber, NoPath, NoTable
from notejar.giving import given_text, is_given, read_given
from notejar.names import is_label, is_name, is_rule, is_table, labels, open_end, own_end, within
from notejar.notes import goes, has_ended, is_note, key, made, why_refused
from notejar.paths import folder, is_path, under
from things import any_things, copied, is_moment, refusal, with_part

ASKED = (is_label, is_name, is_rule, is_table, is_path, is_ask, is_given, is_note)
ASK = (True, "a.b", "/x/y", "c.a.b")
GIVEN = ("n", "5", "a.b", "/x", 70, 3, True, "near")
NOTE = ("n", "5", "a.b", True, "/x", 70, True, "near", 3, 9)


def many_names(most):
    return [".".join(parts) for count in range(1, most + 1) for parts in itertools.product("ab", repeat=count)]


def many_tables():
    rules = many_names(3) + ["*." + name for name in many_names(2)] + ["!" + name for name in many_names(3)[2:]]
    rules = sorted(rules)
    return [table for count in range(3) for table in itertools.combinations(rules, count)]


def many_paths():
    return ["/" + "".join(signs) for count in range(5) for signs in itertools.product("/a.", repeat=count)]


def many_given(names, worths):
    return list(itertools.product(names, worths, (None, "b", "a.b", "c.d"), (None, "/", "/x"), (None, 0, 7, 9999),
                                  (None, 0, 3, 9999), (True, False), ("any", "near")))


def many_asks():
    return list(itertools.product((True, False), ("b", "a.b", "x.a.b", "c.d"), ("/", "/x", "/x/y", "/xy"),
                                  (None, "a.b", "c.b")))


def many_notes():
    return list(itertools.product(("n",), ("5",), ("b", "a.b", "x.a.b"), (True, False), ("/", "/x", "/x/"), (None, 5, 6),
                                  (True, False), ("any", "near"), (3,), (9,)))


def many_texts():
    parts = ("for a.b", "for A", "under /x", "under x", "until 0070", "until 12345", "lasts 9999", "safe", "any", "near", "",
             " ", "what")
    firsts = ("n=5", " N-_= ", "own-x=!~", "n", "=5", "n=5=", "")
    return [";".join((first,) + told) for first in firsts for count in range(4)
            for told in itertools.product(parts, repeat=count)]


def ends_of(name):
    """From the name itself down to its last label."""
    return [name] + [name[place + 1:] for place in range(len(name)) if name[place] == "."]


def told_open(table, name):
    """The open end, by the words of 1.2."""
    out = [end for end in ends_of(name) if "!" + end in table]
    if out:
        longest = max(out, key=len)
        return longest[longest.index(".") + 1:]
    told = [end for end in ends_of(name) if end in table or "*" + end[end.find("."):] in table and "." in end]
    return max(told, key=len) if told else name.split(".")[-1]


class EndsOfNames(unittest.TestCase):
    def test_open_and_own_ends(self):
        names = many_names(4)
        for table in many_tables():
            open_by_own = {}
            for name in names:
                open_one = open_end(table, name)
                own_one = own_end(table, name)
                self.assertEqual(open_one, told_open(table, name), (table, name))
                ends = ends_of(name)
                self.assertIn(open_one, ends, (table, name))
                if own_one is None:
                    self.assertEqual(open_one, name, (table, name))
                    continue
                self.assertIn(own_one, ends, (table, name))
                self.assertEqual(labels(own_one)[1:], labels(open_one), (table, name))
                self.assertEqual(open_by_own.setdefault(own_one, open_one), open_one, (table, name))


class WithinAndUnder(unittest.TestCase):
    def check_goes_on(self, call, things):
        above = {one: [other for other in things if call(one, other)] for one in things}
        for one in things:
            self.assertIn(one, above[one])
            for other in above[one]:
                for third in above[other]:
                    self.assertIn(third, above[one], (one, other, third))
        return above

    def test_under(self):
        paths = many_paths()
        above = self.check_goes_on(under, paths)
        for path in paths:
            self.assertIn("/", above[path])
            self.assertIn(folder(path), above[path])

    def test_within(self):
        names = many_names(5)
        above = self.check_goes_on(within, names)
        for name in names:
            self.assertEqual(sorted(above[name]), sorted(ends_of(name)))


class Given(unittest.TestCase):
    def test_what_is_read_of_the_plain_text_is_what_it_writes(self):
        for given in many_given(("n", "safe-x", "Own-_9"), ("", "5", "!~")):
            self.assertIs(is_given(given), True, given)
            text = given_text(given)
            self.assertEqual(repr(read_given(text)), repr(given), text)
            self.assertEqual(given_text(read_given(text)), text)

    def test_what_is_read_may_be_given(self):
        read = 0
        for text in many_texts():
            if refusal(read_given, text) is None:
                read += 1
                given = read_given(text)
                self.assertIs(is_given(given), True, text)
                self.assertEqual(repr(read_given(given_text(given))), repr(given), text)
            else:
                self.assertIs(refusal(read_given, text), NoNote, text)
        self.assertGreater(read, 1000)

    def test_what_is_made_goes_along_with_its_ask_if_that_is_under_its_path(self):
        for table in ((), ("a.b",), ("!a.b", "*.b")):
            for ask in many_asks():
                for given in many_given(("n", "own-x"), ("5",)):
                    # One end is enough here: the others make no note that goes otherwise.
                    if given[4] is not None or given[5] not in (None, 0):
                        continue
                    due = None if why_refused(table, ask, given) is None else NoNote
                    self.assertIs(refusal(made, table, ask, given, 6), due, (table, ask, given))
                    if due is None:
                        note = made(table, ask, given, 6)
                        self.assertIs(is_note(note), True, note)
                        told = under(ask[2], note[4]) and not has_ended(note, 6)
                        self.assertIs(goes(table, note, ask, 6), told, (table, note, ask))


class Goes(unittest.TestCase):
    def test_no_note_goes_where_it_may_not(self):
        went = 0
        for table in ((), ("a.b",)):
            for ask in many_asks():
                for note in many_notes():
                    if goes(table, note, ask, 5):
                        went += 1
                        self.assertTrue(ask[1] == note[2] or not note[3] and within(ask[1], note[2]), (note, ask))
                        self.assertTrue(ask[0] or not note[6], (note, ask))
                        self.assertFalse(has_ended(note, 5), (note, ask))
                        self.assertTrue(under(ask[2], note[4]), (note, ask))
                        self.assertTrue(note[7] == "any" or is_near(table, ask), (note, ask))
        self.assertGreater(went, 100)

    def test_goes_just_where_no_condition_is_broken(self):
        for table in ((), ("a.b",)):
            for ask in many_asks():
                for note in many_notes():
                    broken = [note[5] == 5, ask[1] != note[2] and (note[3] or not within(ask[1], note[2])),
                              not under(ask[2], note[4]), note[6] and not ask[0],
                              note[7] == "near" and not is_near(table, ask)]
                    self.assertIs(goes(table, note, ask, 5), not any(broken), (table, note, ask))


class AnyThing(unittest.TestCase):
    def test_what_asks_answers_true_or_false(self):
        for call in ASKED:
            for thing in any_things():
                self.assertIn(call(thing), (True, False))
                self.assertIsInstance(call(thing), bool)

    def test_what_is_no_text_is_none_of_these(self):
        for thing in any_things():
            if not isinstance(thing, str):
                for call in (is_label, is_name, is_rule, is_path):
                    self.assertIs(call(thing), False)
            if not isinstance(thing, tuple):
                for call in (is_table, is_ask, is_given, is_note):
                    self.assertIs(call(thing), False)

    def test_any_thing_as_a_part(self):
        for call, whole in ((is_ask, ASK), (is_given, GIVEN), (is_note, NOTE)):
            for place, thing in itertools.product(range(len(whole)), any_things()):
                told = call(with_part(whole, place, thing))
                self.assertIsInstance(told, bool)
                # Where a whole number or a text stands, a thing of another kind is none, nor is a truth.
                if thing is not None and type(thing) is not type(whole[place]):
                    self.assertIs(told, False)

    def test_a_truth_is_no_whole_number_within_a_tuple(self):
        for truth in (True, False):
            for place in (4, 5):
                self.assertIs(is_given(with_part(GIVEN, place, truth)), False)
            for place in (5, 8, 9):
                self.assertIs(is_note(with_part(NOTE, place, truth)), False)
            self.assertIs(refusal(made, (), ASK, GIVEN, truth), NoNumber)

    def test_a_whole_number_is_no_truth(self):
        for number in (0, 1):
            self.assertIs(is_ask(with_part(ASK, 0, number)), False)
            self.assertIs(is_given(with_part(GIVEN, 6, number)), False)
            for place in (3, 6):
                self.assertIs(is_note(with_part(NOTE, place, number)), False)

    def test_names_are_refused_by_their_class(self):
        for thing in any_things():
            due = None if is_name(thing) else NoName
            self.assertIs(refusal(labels, thing), due)
            self.assertIs(refusal(within, thing, "a"), due)
            self.assertIs(refusal(within, "a", thing), due)
            self.assertIs(refusal(open_end, (), thing), due)
            self.assertIs(refusal(own_end, (), thing), due)

    def test_tables_are_refused_by_their_class_and_ahead_of_names(self):
        for thing in any_things():
            due = None if is_table(thing) else NoTable
            for call in (open_end, own_end):
                self.assertIs(refusal(call, thing, "a"), due)
                self.assertIs(refusal(call, thing, thing), due or NoName)

    def test_paths_are_refused_by_their_class(self):
        for thing in any_things():
            due = None if is_path(thing) else NoPath
            self.assertIs(refusal(folder, thing), due)
            self.assertIs(refusal(under, thing, "/"), due)
            self.assertIs(refusal(under, "/", thing), due)

    def test_asks_are_refused_by_their_class(self):
        for thing in any_things() + [with_part(ASK, place, thing) for place in range(4) for thing in any_things()]:
            due = None if is_ask(thing) else NoAsk
            self.assertIs(refusal(is_near, (), thing), due)
            if due is not None:
                self.assertIs(refusal(why_refused, (), thing, GIVEN), NoAsk)
                self.assertIs(refusal(made, (), thing, GIVEN, 5), NoAsk)

    def test_what_is_given_is_refused_by_its_class(self):
        for thing in any_things() + [with_part(GIVEN, place, thing) for place in range(8) for thing in any_things()]:
            due = None if is_given(thing) else NoNote
            self.assertIs(refusal(given_text, thing), due)
            self.assertIs(refusal(why_refused, (), ASK, thing), due)
            if due is not None:
                self.assertIs(refusal(made, (), ASK, thing, 5), NoNote)

    def test_texts_that_give_nothing_are_refused_by_their_class(self):
        for thing in any_things():
            self.assertIs(refusal(read_given, thing), NoNote)

    def test_moments_are_refused_by_their_class(self):
        for thing in any_things():
            self.assertIs(refusal(made, (), ASK, GIVEN, thing), None if is_moment(thing) else NoNumber)

    def test_of_several_refusals_that_of_what_is_handed_in_first_is_raised(self):
        for thing in any_things():
            due = [NoTable] * (not is_table(thing)) + [NoAsk]
            self.assertIs(refusal(is_near, thing, thing), due[0])
            self.assertIs(refusal(why_refused, thing, thing, thing), due[0])
            self.assertIs(refusal(made, thing, thing, thing, thing), due[0])
            self.assertIs(refusal(made, (), thing, thing, thing), NoAsk)
            self.assertIs(refusal(made, (), ASK, thing, thing), NoNote)

    def test_all_refusals_are_jar_errors(self):
        for call, handed in ((labels, (1,)), (within, ("a", 1)), (open_end, (1, "a")), (own_end, ((), 1)),
                             (folder, (1,)), (under, ("/", 1)), (is_near, ((), 1)), (read_given, (1,)), (given_text, (1,)),
                             (why_refused, ((), ASK, 1)), (made, ((), ASK, GIVEN, -1))):
            with self.assertRaises(JarError):
                call(*handed)

    def test_what_is_handed_in_is_not_changed(self):
        for thing in any_things():
            kept = copied(thing)
            for call in ASKED + (labels, folder, read_given, given_text):
                refusal(call, thing)
            for call in (within, under, open_end, own_end, is_near):
                refusal(call, thing, thing)
            refusal(why_refused, thing, thing, thing)
            refusal(made, thing, thing, thing, thing)
            self.assertEqual(thing, kept)

    def test_a_list_handed_in_as_a_part_is_not_changed(self):
        for call, whole in ((is_ask, ASK), (is_given, GIVEN), (is_note, NOTE), (given_text, GIVEN)):
            for place in range(len(whole)):
                spoilt = with_part(whole, place, [whole[place]])
                refusal(call, spoilt)
                self.assertEqual(spoilt[place], [whole[place]])


class ToldTuples(unittest.TestCase):
    def test_equal_where_the_parts_are(self):
        self.assertEqual(read_given(given_text(GIVEN)), GIVEN)
        self.assertEqual(hash(read_given(given_text(GIVEN))), hash(GIVEN))
        told = made((), ASK, GIVEN, 5)
        self.assertEqual(told, ("n", "5", "a.b", False, "/x", 8, True, "near", 5, 5))
        self.assertEqual(hash(told), hash(made((), ASK, GIVEN, 5)))
        self.assertEqual(hash(key(NOTE)), hash(("n", "a.b", "/x")))


class ToldLists(unittest.TestCase):
    def test_a_told_list_may_be_changed(self):
        name = "a.b.c"
        told = labels(name)
        told.append("d")
        told[0] = "x"
        self.assertEqual(labels(name), ["a", "b", "c"])
        labels(name).clear()
        self.assertEqual(labels(name), ["a", "b", "c"])
        self.assertEqual(own_end((), name), "b.c")
        self.assertIs(within(name, "b.c"), True)

    def test_a_told_list_is_a_new_one_each_time(self):
        self.assertIsNot(labels("a.b"), labels("a.b"))


if __name__ == "__main__":
    unittest.main()
