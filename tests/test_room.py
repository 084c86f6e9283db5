import itertools
import unittest

from notejar.errors import NoJar, NoNumber, NoTable
from notejar.room import fitted, groups
from things import JARS, ROOMS, TABLES, WRONG_JARS, WRONG_ROOMS, WRONG_TABLES, a_note, numbered, orders, refusal


def named(notes):
    return "".join([note[0] for note in notes])


class Groups(unittest.TestCase):
    def check(self, told, houses, table=()):
        jar = tuple([a_note("n" + str(place), house=house) for place, house in enumerate(houses)])
        self.assertEqual(groups(table, jar), told, (table, houses))
        self.assertIsInstance(groups(table, jar), list)

    def test_none(self):
        self.check([], ())
        self.check([], (), ("a.b",))

    def test_houses_with_an_own_end(self):
        self.check([("a.b", 1)], ("a.b",))
        self.check([("a.b", 1)], ("x.a.b",))
        self.check([("x.a.b", 1)], ("x.a.b",), ("a.b",))
        self.check([("a.b", 1)], ("y.a.b",), ("!a.b", "*.b"))

    def test_houses_without_one(self):
        self.check([("b", 1)], ("b",))
        self.check([("a.b", 1)], ("a.b",), ("a.b",))
        self.check([("a.b", 1), ("x.a.b", 2)], ("a.b", "x.a.b", "y.x.a.b"), ("a.b",))

    def test_several_houses_of_one_group(self):
        self.check([("a.b", 3), ("b", 1), ("c.b", 1)], ("x.a.b", "b", "a.b", "c.b", "y.x.a.b"))
        self.check([("b", 2)], ("b", "b"))

    def test_rising(self):
        houses = ("z", "b.c", "a.c", "a-b.c", "a", "ab.c", "z.z")
        self.check([("a", 1), ("a-b.c", 1), ("a.c", 1), ("ab.c", 1), ("b.c", 1), ("z", 1), ("z.z", 1)], houses)

    def test_all_of_twenty(self):
        self.check([("a.b", 20)], ("a.b",) * 20)

    def test_refusals(self):
        for wrong in WRONG_TABLES:
            self.assertIs(refusal(groups, wrong, ()), NoTable, repr(wrong))
            self.assertIs(refusal(groups, wrong, None), NoTable, repr(wrong))
        for wrong in WRONG_JARS:
            self.assertIs(refusal(groups, (), wrong), NoJar, repr(wrong))

    def test_a_told_list_may_be_changed(self):
        jar = (a_note(),)
        told = groups((), jar)
        told.append(("z", 9))
        told[0] = None
        self.assertEqual(groups((), jar), [("a.b", 1)])


class Fitted(unittest.TestCase):
    def check(self, left, jar, each, most, table=()):
        told = fitted(table, jar, each, most)
        self.assertIsInstance(told, tuple)
        self.assertEqual(named(told), left, (table, jar, each, most))
        self.assertTrue(all([note in jar for note in told]))

    def test_there_is_room(self):
        for each, most in ((20, 20), (5, 5), (5, 20), (20, 5)):
            self.check("klmno", tuple([a_note(name) for name in "klmno"]), each, most)
        self.check("", (), 0, 0)
        self.check("", (), 20, 20)
        self.assertEqual(fitted((), numbered(20), 20, 20), numbered(20))

    def test_no_room(self):
        jar = (a_note("k", safe=True), a_note("l"))
        self.check("", jar, 0, 20)
        self.check("", jar, 20, 0)
        self.check("", jar, 0, 0)

    def test_room_for_one(self):
        jar = (a_note("k", used=7), a_note("l", used=5), a_note("m", house="c.b", used=6), a_note("n", house="c.b", used=8))
        self.check("kn", jar, 1, 20)
        self.check("n", jar, 20, 1)
        self.check("n", jar, 1, 1)

    def test_unsafe_ones_first(self):
        jar = (a_note("k", safe=True, used=3), a_note("l", used=99), a_note("m", safe=True, used=4), a_note("n", used=98))
        for room, left in ((4, "klmn"), (3, "klm"), (2, "km"), (1, "m"), (0, "")):
            self.check(left, jar, room, 20)
            self.check(left, jar, 20, room)

    def test_then_those_used_first(self):
        jar = (a_note("k", used=8), a_note("l", used=6), a_note("m", used=9), a_note("n", used=7))
        for room, left in ((4, "klmn"), (3, "kmn"), (2, "km"), (1, "m"), (0, "")):
            self.check(left, jar, room, 20)
            self.check(left, jar, 20, room)

    def test_then_as_in_the_jar(self):
        jar = (a_note("m"), a_note("z"), a_note("k"), a_note("a"))
        for room, left in ((4, "mzka"), (3, "zka"), (2, "ka"), (1, "a"), (0, "")):
            self.check(left, jar, room, 20)
            self.check(left, jar, 20, room)

    def test_when_they_were_made_or_end_is_not_looked_at(self):
        jar = (a_note("k", made=1, used=9, ends=0), a_note("l", made=2, used=5, ends=9999), a_note("m", made=3, used=7))
        self.check("km", jar, 2, 20)
        self.check("k", jar, 20, 1)

    def test_groups_by_themselves(self):
        jar = (a_note("k"), a_note("l", house="x.a.b"), a_note("m", house="b"), a_note("n", house="c.b"), a_note("o", house="b"))
        self.check("lno", jar, 1, 20)
        self.check("klmno", jar, 2, 20)
        self.check("klno", jar, 1, 20, ("a.b",))
        self.check("klno", jar, 1, 20, ("*.b",))
        self.check("lno", jar, 1, 20, ("*.x.b",))

    def test_each_ahead_of_most(self):
        # Were most looked at first, o would be dropped, and then k or l.
        jar = (a_note("k", used=8), a_note("l", used=9), a_note("m", used=7), a_note("o", house="c.d", used=3))
        self.check("lo", jar, 1, 2)
        self.check("lo", jar, 1, 3)
        self.check("l", jar, 1, 1)
        self.check("klo", jar, 2, 3)
        self.check("kl", jar, 2, 2)

    def test_most_over_all_groups(self):
        jar = (a_note("k", safe=True, used=3), a_note("l", house="c.d", used=8), a_note("m", house="e", used=7))
        for most, left in ((3, "klm"), (2, "kl"), (1, "k"), (0, "")):
            self.check(left, jar, 1, most)

    def test_what_is_left_stands_as_it_stood(self):
        jar = tuple([a_note("nopqr"[place], used=used) for place, used in enumerate((5, 9, 4, 8, 7))])
        self.check("oqr", jar, 3, 20)
        self.check("oqr", jar, 20, 3)
        for note in fitted((), jar, 20, 3):
            self.assertIn(note, jar)

    def test_a_full_jar(self):
        for room in range(21):
            self.assertEqual(fitted((), numbered(20), room, 20), numbered(20)[20 - room:])
            self.assertEqual(fitted((), numbered(20), 20, room), numbered(20)[20 - room:])

    def test_refusals(self):
        for wrong in WRONG_TABLES:
            self.assertIs(refusal(fitted, wrong, (), 5, 5), NoTable, repr(wrong))
        for wrong in WRONG_JARS:
            self.assertIs(refusal(fitted, (), wrong, 5, 5), NoJar, repr(wrong))
        for wrong in WRONG_ROOMS:
            self.assertIs(refusal(fitted, (), (), wrong, 5), NoNumber, repr(wrong))
            self.assertIs(refusal(fitted, (), (), 5, wrong), NoNumber, repr(wrong))
        for each, most in itertools.product((0, 1, 20), repeat=2):
            self.assertIsNone(refusal(fitted, (), (), each, most))

    def test_the_order_of_refusals(self):
        for handed, due in orders(TABLES, JARS, ROOMS, ROOMS):
            self.assertIs(refusal(fitted, *handed), due, handed)


if __name__ == "__main__":
    unittest.main()
