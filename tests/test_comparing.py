import unittest

from notejar.comparing import changed, merged
from notejar.errors import NoJar
from notejar.jars import is_jar
from things import JARS, WRONG_JARS, a_note, numbered, orders, refusal, with_part

K, L, M = ("k", "a.b", "/"), ("l", "a.b", "/"), ("m", "a.b", "/")
# For each part of a note but those of its key another one.
OTHER_PARTS = ((1, "6"), (3, True), (5, 70), (6, True), (7, "near"), (8, 2), (9, 10))


class Changed(unittest.TestCase):
    def check(self, told, one, other):
        self.assertEqual(changed(one, other), told)
        self.assertIsInstance(changed(one, other), tuple)
        for part in changed(one, other):
            self.assertIsInstance(part, list)
        self.assertEqual(changed(other, one), (told[1], told[0], told[2]))

    def test_none(self):
        self.check(([], [], []), (), ())
        self.check(([], [], []), numbered(20), numbered(20))

    def test_gone_and_new(self):
        self.check(([K], [], []), (a_note("k"),), ())
        self.check(([], [K], []), (), (a_note("k"),))
        self.check(([K], [M], []), (a_note("k"), a_note("l")), (a_note("l"), a_note("m")))

    def test_both_and_alike(self):
        self.check(([], [], []), (a_note("k"), a_note("l")), (a_note("l"), a_note("k")))

    def test_both_and_not_just_alike(self):
        for place, part in OTHER_PARTS:
            self.check(([], [], [K]), (a_note("k"),), (with_part(a_note("k"), place, part),))

    def test_another_key_is_another_note(self):
        self.check(([K], [("k", "a.b", "/x")], []), (a_note("k"),), (a_note("k", path="/x"),))
        self.check(([K], [("k", "b", "/")], []), (a_note("k"),), (a_note("k", house="b"),))
        self.check(([K], [("K", "a.b", "/")], []), (a_note("k"),), (a_note("K"),))

    def test_all_at_once(self):
        one = (a_note("k"), a_note("l"), a_note("m", worth="1"))
        other = (a_note("l"), a_note("m", worth="2"), a_note("o"))
        self.check(([K], [("o", "a.b", "/")], [M]), one, other)

    def test_rising(self):
        one = tuple([a_note(name, house=house, path=path) for name, house, path in
                     (("z", "a", "/"), ("a", "b", "/"), ("a", "a", "/x"), ("Z", "a", "/"), ("a", "a", "/"))])
        keys = [("Z", "a", "/"), ("a", "a", "/"), ("a", "a", "/x"), ("a", "b", "/"), ("z", "a", "/")]
        self.check((keys, [], []), one, ())
        self.check(([], [], keys), one, tuple([with_part(note, 1, "6") for note in one]))

    def test_full_jars(self):
        other = tuple([with_part(note, 0, "m" + note[0]) for note in numbered(20)])
        told = changed(numbered(20), other)
        self.assertEqual([len(part) for part in told], [20, 20, 0])

    def test_told_lists_may_be_changed(self):
        one, other = (a_note("k"), a_note("l")), (a_note("l", worth="6"), a_note("m"))
        for part in changed(one, other):
            part.append(None)
            part[0] = None
        self.check(([K], [M], [L]), one, other)


class Merged(unittest.TestCase):
    def check(self, told, one, other):
        self.assertEqual(merged(one, other), told)
        self.assertIsInstance(merged(one, other), tuple)
        self.assertIs(is_jar(merged(one, other)), True)

    def test_none(self):
        self.check((), (), ())
        self.check((a_note(),), (a_note(),), ())
        self.check((a_note(),), (), (a_note(),))

    def test_of_two_with_one_key_that_used_later(self):
        early, late = a_note(worth="1", made=5, used=9), a_note(worth="2", made=3, used=10)
        self.check((late,), (early,), (late,))
        self.check((late,), (late,), (early,))

    def test_of_such_that_made_later(self):
        early, late = a_note(worth="1", made=3, used=9), a_note(worth="2", made=5, used=9)
        self.check((late,), (early,), (late,))
        self.check((late,), (late,), (early,))

    def test_of_such_the_ones(self):
        for place, part in OTHER_PARTS[:5]:
            first = a_note()
            second = with_part(first, place, part)
            self.check((first,), (first,), (second,))
            self.check((second,), (second,), (first,))

    def test_another_key_is_another_note(self):
        for place, part in ((0, "o"), (2, "b.a"), (4, "/x")):
            first = a_note()
            second = with_part(first, place, part)
            self.check((first, second), (first,), (second,))
            self.check((first, second), (second,), (first,))

    def test_those_made_earlier_first(self):
        one = (a_note("z", made=1), a_note("y", made=5))
        other = (a_note("x", made=0), a_note("w", made=3), a_note("v", made=9))
        due = (other[0], one[0], other[1], one[1], other[2])
        self.check(due, one, other)
        self.check(due, other, one)

    def test_those_made_at_one_moment_by_their_keys(self):
        one = (a_note("z"), a_note("a", house="b", path="/x"), a_note("a", house="b"), a_note("B", used=99))
        other = (a_note("m"), a_note("a", house="a", path="/z"))
        due = (one[3], other[1], one[2], one[1], other[0], one[0])
        self.check(due, one, other)
        self.check(due, other, one)

    def test_the_moment_ahead_of_the_key(self):
        self.check((a_note("z", made=2), a_note("a", made=3)), (a_note("a", made=3),), (a_note("z", made=2),))

    def test_the_place_goes_by_the_note_that_is_left(self):
        one = (a_note("k", made=1, used=5), a_note("l", made=2, used=2))
        other = (a_note("k", made=3, used=6),)
        self.check((one[1], other[0]), one, other)

    def test_what_ended_stays(self):
        self.check((a_note("k", ends=0), a_note("l", ends=1)), (a_note("k", ends=0),), (a_note("l", ends=1),))

    def test_twenty_and_more(self):
        jar = numbered(20)
        self.check(jar, jar[:10], jar[10:])
        self.check(jar, jar[:15], jar[5:])
        self.check(jar, jar, jar)
        self.assertIs(refusal(merged, jar, (a_note(made=30, used=30),)), NoJar)
        self.assertIs(refusal(merged, jar[:11], tuple([with_part(note, 0, "m" + note[0]) for note in jar[:10]])), NoJar)
        self.assertIs(refusal(merged, jar, tuple([with_part(note, 0, "m" + note[0]) for note in jar])), NoJar)
        self.check(jar[:19] + (a_note(made=30, used=30),), jar[:19], (a_note(made=30, used=30),))


class Refusals(unittest.TestCase):
    def test_refusals(self):
        for call in (changed, merged):
            for wrong in WRONG_JARS:
                self.assertIs(refusal(call, wrong, ()), NoJar, repr(wrong))
                self.assertIs(refusal(call, (), wrong), NoJar, repr(wrong))
                self.assertIs(refusal(call, (a_note(),), wrong), NoJar, repr(wrong))
                self.assertIs(refusal(call, wrong, wrong), NoJar, repr(wrong))
            for handed, due in orders(JARS, JARS):
                self.assertIs(refusal(call, *handed), due, handed)


if __name__ == "__main__":
    unittest.main()
