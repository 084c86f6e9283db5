"""What the document says of the whole, of jars, room and keepers: 0.2 (c) to (f), and 0.3."""

import random
import unittest

from notejar.errors import JarError, NoAsk, NoJar, NoName, NoNote, NoNumber, NoTable
from notejar.giving import is_given, read_given
from notejar.jars import forgotten, is_jar, put, sent, sent_text, swept, taken, used, verdict
from notejar.keepers import Keeper
from notejar.names import is_name, is_table, own_end, within
from notejar.notes import goes, has_ended, key, made, why_refused
from notejar.paths import under
from notejar.room import fitted, groups
from things import a_note, an_ask, any_things, copied, is_moment, many, refusal, some_ask, some_jar, some_table, some_text
from things import with_part

ASK = an_ask()
JAR = (a_note("m", ends=70), a_note(safe=True))
WORDS = ("foreign", "open", "unsafe", "marked", "far", "shadowed", "gone", "kept")


def is_room(thing):
    return type(thing) is int and 0 <= thing <= 20


class Taken(unittest.TestCase):
    def test_each_word_comes_and_is_a_text(self):
        told = [verdict(some_table(by), some_jar(by), some_ask(by), some_text(by), 30) for by in many(2000)]
        self.assertEqual(sorted(set(told)), sorted(WORDS))

    def test_what_is_kept_may_be_given_and_goes_along_with_its_ask(self):
        kept = 0
        for by in many(3000):
            table, jar, ask, text = some_table(by), some_jar(by), some_ask(by), some_text(by)
            if verdict(table, jar, ask, text, 30) != "kept":
                continue
            kept += 1
            given = read_given(text)
            self.assertIs(is_given(given), True)
            self.assertIsNone(why_refused(table, ask, given))
            left = taken(table, jar, ask, text, 30)
            new = [note for note in left if key(note) == key(made(table, ask, given, 30))]
            self.assertEqual(len(new), 1)
            told = under(ask[2], new[0][4])
            self.assertIs(goes(table, new[0], ask, 30), told, (table, new, ask))
            self.assertIs(new[0] in sent(table, left, ask, 30), told, (table, new, ask))
        self.assertGreater(kept, 300)

    def test_what_is_not_kept_leaves_no_note_that_was_not_there(self):
        for by in many(1000):
            table, jar, ask, text = some_table(by), some_jar(by), some_ask(by), some_text(by)
            word = verdict(table, jar, ask, text, 30)
            left = taken(table, jar, ask, text, 30)
            if word == "gone":
                ended = key(made(table, ask, read_given(text), 30))
                self.assertEqual(left, tuple([note for note in swept(jar, 30) if key(note) != ended]))
            elif word != "kept":
                self.assertEqual(left, swept(jar, 30), word)


class Jars(unittest.TestCase):
    def test_what_comes_of_a_jar_is_one(self):
        for by in many(1000):
            table, jar, ask, text = some_table(by), some_jar(by), some_ask(by), some_text(by)
            now = by.randrange(30, 80)
            new = a_note(by.choice("kmn"), house=by.choice(("a.b", "b")), path=by.choice(("/", "/x")), made=now, used=now)
            told = (jar, taken(table, jar, ask, text, now), swept(jar, now), put(jar, new), used(table, jar, ask, now),
                    forgotten(jar, by.choice(("b", "a.b", "c.d", "d"))), fitted(table, jar, by.randrange(5), by.randrange(9)))
            for one in told:
                self.assertIs(is_jar(one), True, one)
                keys = [key(note) for note in one]
                self.assertEqual(len(keys), len(set(keys)))

    def test_notes_of_unlike_names_come_in_either_order_to_the_same_notes(self):
        words = []
        for by in many(3000):
            table, jar, ask, other = some_table(by), some_jar(by), some_ask(by), some_ask(by)
            one_text, other_text = some_text(by), some_text(by)
            if read_given(one_text)[0] == read_given(other_text)[0]:
                continue
            first = taken(table, taken(table, jar, ask, one_text, 30), other, other_text, 30)
            last = taken(table, taken(table, jar, other, other_text, 30), ask, one_text, 30)
            self.assertEqual(sorted(first, key=key), sorted(last, key=key), (table, jar, ask, one_text, other, other_text))
            words.append(verdict(table, jar, ask, one_text, 30))
        self.assertEqual(sorted(set(words)), sorted(WORDS))

    def test_put_in_either_order(self):
        for by in many(300):
            jar = some_jar(by)
            one = a_note(by.choice("km"), worth="1", path=by.choice(("/", "/x")), made=30, used=30)
            other = a_note(by.choice("no"), worth="2", path=by.choice(("/", "/x")), made=30, used=30)
            self.assertEqual(sorted(put(put(jar, one), other), key=key), sorted(put(put(jar, other), one), key=key))


class Sent(unittest.TestCase):
    def check_one_that_went(self, table, note, ask, now):
        self.assertTrue(ask[1] == note[2] or not note[3] and within(ask[1], note[2]), (note, ask))
        self.assertTrue(ask[0] or not note[6], (note, ask))
        self.assertFalse(has_ended(note, now), (note, ask))

    def test_no_note_goes_where_it_may_not(self):
        went = 0
        for by in many(2000):
            table, jar, ask, now = some_table(by), some_jar(by), some_ask(by), by.randrange(20, 60)
            told = sent(table, jar, ask, now)
            went += len(told)
            for note in told:
                self.check_one_that_went(table, note, ask, now)
            self.assertEqual(sorted(told), sorted([note for note in jar if goes(table, note, ask, now)]))
            self.assertEqual(sent_text(table, jar, ask, now), "; ".join([note[0] + "=" + note[1] for note in told]))
            for old, new in zip(jar, used(table, jar, ask, now), strict=True):
                self.assertEqual(new, with_part(old, 9, max(old[9], now)) if old in told else old)
        self.assertGreater(went, 500)

    def test_those_with_longer_paths_first_then_as_in_the_jar(self):
        for by in many(1000):
            table, jar, ask = some_table(by), some_jar(by), some_ask(by)
            places = [(-len(note[4]), jar.index(note)) for note in sent(table, jar, ask, 30)]
            self.assertEqual(places, sorted(places))

    def test_what_a_keeper_sends(self):
        for by in many(200):
            keeper = Keeper(some_table(by), by.randrange(6), by.randrange(21))
            for now in range(20, 60, 2):
                ask = some_ask(by)
                keeper.hear(some_ask(by), some_text(by), now)
                before = keeper.notes()
                worths = keeper.send(ask, now + 1).split("; ")
                going = [note[0] + "=" + note[1] for note in before if goes(keeper.table, note, ask, now + 1)]
                self.assertEqual(sorted(worths), sorted(going) or [""])
                for note in keeper.notes():
                    self.assertFalse(has_ended(note, now + 1))


def one_at_a_time(table, jar, each, most):
    """What is left, by the words of 7.1: one note is dropped after the other, as long as there are too many."""
    left = list(jar)
    group = {note: own_end(table, note[2]) or note[2] for note in jar}
    for name in set(group.values()):
        while len([note for note in left if group[note] == name]) > each:
            left.remove(first_to_go([note for note in left if group[note] == name]))
    while len(left) > most:
        left.remove(first_to_go(left))
    return tuple(left)


def first_to_go(notes):
    unsafe = [note for note in notes if not note[6]] or notes
    earliest = min([note[9] for note in unsafe])
    return [note for note in unsafe if note[9] == earliest][0]


class Fitted(unittest.TestCase):
    def test_no_more_than_there_is_room_for(self):
        for by in many(2000):
            table, jar, each, most = some_table(by), some_jar(by), by.randrange(6), by.randrange(12)
            left = fitted(table, jar, each, most)
            self.assertLessEqual(len(left), most)
            for group, count in groups(table, left):
                self.assertLessEqual(count, each)

    def test_none_is_dropped_ahead_of_one_that_is_to_go_first(self):
        for by in many(2000):
            table, jar, each, most = some_table(by), some_jar(by), by.randrange(6), by.randrange(12)
            left = fitted(table, jar, each, most)
            self.assertEqual(left, one_at_a_time(table, jar, each, most), (table, jar, each, most))
            rank = {note: (note[6], note[9], place) for place, note in enumerate(jar)}
            group = {note: own_end(table, note[2]) or note[2] for note in jar}
            for gone in set(jar) - set(left):
                for note in left:
                    if group[note] == group[gone]:
                        self.assertLess(rank[gone], rank[note])

    def test_groups_count_each_note_once(self):
        for by in many(500):
            table, jar = some_table(by), some_jar(by)
            told = groups(table, jar)
            self.assertEqual(sum([count for group, count in told]), len(jar))
            self.assertEqual(told, sorted(set(told)))
            self.assertEqual(len(set([group for group, count in told])), len(told))

    def test_keepers(self):
        for by in many(100):
            table, each, most = some_table(by), by.randrange(5), by.randrange(9)
            keeper = Keeper(table, each, most)
            for now in range(30):
                keeper.hear(some_ask(by), some_text(by), now)
                self.assertIs(is_jar(keeper.notes()), True)
                self.assertLessEqual(len(keeper.notes()), most)
                for group, count in groups(table, keeper.notes()):
                    self.assertLessEqual(count, each)


class AnyThing(unittest.TestCase):
    def test_is_jar_answers_true_or_false(self):
        for thing in any_things():
            self.assertIs(is_jar(thing), thing == () and isinstance(thing, tuple))
            self.assertIs(is_jar((thing,)), False)
            self.assertIs(is_jar((a_note(), thing)), False)
            self.assertIs(is_jar((thing, a_note())), False)

    def test_is_jar_with_any_thing_as_a_part_of_a_note(self):
        for place in range(10):
            for thing in any_things():
                self.assertIsInstance(is_jar((with_part(a_note(), place, thing),)), bool)
                self.assertIsInstance(is_jar((a_note("m"), with_part(a_note(), place, thing))), bool)
                if type(thing) is not type(a_note(ends=5)[place]) and thing is not None:
                    self.assertIs(is_jar((with_part(a_note(), place, thing),)), False)

    def test_jars_are_refused_by_their_class(self):
        for thing in any_things():
            due = None if is_jar(thing) else NoJar
            for call, handed in ((swept, (5,)), (forgotten, ("a",))):
                self.assertIs(refusal(call, thing, *handed), due)
            for call, handed in ((verdict, (ASK, "n=5", 30)), (taken, (ASK, "n=5", 30)), (sent, (ASK, 30)),
                                 (sent_text, (ASK, 30)), (used, (ASK, 30)), (groups, ()), (fitted, (5, 5))):
                self.assertIs(refusal(call, (), thing, *handed), due)

    def test_tables_are_refused_by_their_class(self):
        for thing in any_things():
            due = None if is_table(thing) else NoTable
            for call, handed in ((verdict, (JAR, ASK, "n=5", 30)), (taken, (JAR, ASK, "n=5", 30)), (sent, (JAR, ASK, 30)),
                                 (sent_text, (JAR, ASK, 30)), (used, (JAR, ASK, 30)), (groups, (JAR,)),
                                 (fitted, (JAR, 5, 5)), (Keeper, (5, 5))):
                self.assertIs(refusal(call, thing, *handed), due)
                # What is handed in first is refused first, whatever comes behind it.
                if due is not None:
                    self.assertIs(refusal(call, *[thing for part in (thing,) + handed]), NoTable)

    def test_asks_and_texts_are_refused_by_their_class(self):
        for thing in any_things():
            for call in (verdict, taken):
                self.assertIs(refusal(call, (), JAR, thing, "n=5", 30), NoAsk)
                self.assertIs(refusal(call, (), JAR, thing, thing, thing), NoAsk)
                self.assertIs(refusal(call, (), JAR, ASK, thing, 30), NoNote)
                self.assertIs(refusal(call, (), JAR, ASK, thing, thing), NoNote)
            for call in (sent, sent_text, used):
                self.assertIs(refusal(call, (), JAR, thing, 30), NoAsk)
                self.assertIs(refusal(call, (), JAR, thing, thing), NoAsk)

    def test_moments_names_and_rooms_are_refused_by_their_class(self):
        for thing in any_things():
            due = None if is_moment(thing) else NoNumber
            self.assertIs(refusal(swept, JAR, thing), due)
            self.assertIs(refusal(verdict, (), JAR, ASK, "n=5", thing), due)
            # The notes were used at 9: what is ahead of that is refused too.
            self.assertIs(refusal(taken, (), JAR, ASK, "n=5", thing), due or (NoNumber if thing < 9 else None))
            for call in (sent, sent_text, used):
                self.assertIs(refusal(call, (), JAR, ASK, thing), due)
            self.assertIs(refusal(forgotten, JAR, thing), None if is_name(thing) else NoName)
            due = None if is_room(thing) else NoNumber
            for each, most in ((thing, 5), (5, thing), (thing, thing)):
                self.assertIs(refusal(fitted, (), JAR, each, most), due)
                self.assertIs(refusal(Keeper, (), each, most), due)

    def test_all_refusals_are_jar_errors(self):
        for call, handed in ((swept, (1, 5)), (forgotten, ((), 1)), (verdict, ((), (), 1, "n=5", 5)), (sent, ((), (), ASK, -1)),
                             (taken, ((), JAR, ASK, "n=5", 0)), (used, (1, (), ASK, 5)), (groups, (1, ())),
                             (fitted, ((), (), 21, 5)), (Keeper, ((), -1, 5)), (Keeper((), 5, 5).step, (-1,))):
            with self.assertRaises(JarError):
                call(*handed)

    def test_what_is_handed_in_is_not_changed(self):
        for thing in any_things():
            kept = copied(thing)
            refusal(is_jar, thing)
            for call in (swept, forgotten, groups):
                refusal(call, thing, thing)
            for call in (sent, sent_text, used, fitted):
                refusal(call, thing, thing, thing, thing)
            for call in (verdict, taken):
                refusal(call, thing, thing, thing, thing, thing)
            keeper = Keeper((), 5, 5)
            refusal(Keeper, thing, thing, thing)
            refusal(keeper.hear, thing, thing, thing)
            refusal(keeper.send, thing, thing)
            refusal(keeper.step, thing)
            refusal(keeper.forget, thing)
            self.assertEqual(thing, kept)


class KeepersRefuse(unittest.TestCase):
    def keeper(self):
        keeper = Keeper((), 5, 5)
        keeper.hear(ASK, "k=5; lasts 3", 7)
        keeper.hear(ASK, "m=5; safe", 8)
        return keeper

    def check(self, due, method, *handed):
        keeper = self.keeper()
        before = dict(vars(keeper))
        self.assertIs(refusal(getattr(keeper, method), *handed), due)
        if due is not None:
            self.assertEqual(vars(keeper), before)

    def test_any_thing(self):
        for thing in any_things():
            self.check(NoAsk, "hear", thing, "n=5", 9)
            self.check(NoAsk, "hear", thing, thing, thing)
            self.check(NoNote, "hear", ASK, thing, 9)
            self.check(NoNote, "hear", ASK, thing, thing)
            self.check(NoAsk, "send", thing, 9)
            self.check(NoAsk, "send", thing, thing)
            due = None if is_moment(thing) and thing >= 8 else NoNumber
            self.check(due, "hear", ASK, "n=5", thing)
            self.check(due, "send", ASK, thing)
            self.check(due, "step", thing)
            self.check(None if is_name(thing) else NoName, "forget", thing)

    def test_a_refused_keeper_goes_on_as_if_nothing_was_handed_in(self):
        for by in many(50):
            table, each, most = some_table(by), by.randrange(6), by.randrange(9)
            one, other = Keeper(table, each, most), Keeper(table, each, most)
            for now in range(1, 20):
                ask, text = some_ask(by), some_text(by)
                for call, handed in ((one.hear, (ask, text, now - 2)), (one.hear, (ask, "", now + 50)), (one.send, (ask, 10000)),
                                     (one.hear, (None, text, now + 50)), (one.step, (True,)), (one.forget, ("7",))):
                    self.assertIsNotNone(refusal(call, *handed))
                self.assertEqual(one.hear(ask, text, now), other.hear(ask, text, now))
                self.assertEqual(one.send(ask, now), other.send(ask, now))
                self.assertEqual((one.notes(), one.clock()), (other.notes(), other.clock()))


class ToldLists(unittest.TestCase):
    def test_told_lists_may_be_changed(self):
        for by in many(100):
            table, jar, ask = some_table(by), some_jar(by), some_ask(by)
            for call, handed in ((sent, (table, jar, ask, 30)), (groups, (table, jar))):
                before = copied(call(*handed))
                told = call(*handed)
                self.assertIsNot(told, call(*handed))
                told.append("more")
                told[0] = None
                self.assertEqual(call(*handed), before)
                call(*handed).clear()
                self.assertEqual(call(*handed), before)
                self.assertIs(is_jar(jar), True)

    def test_jars_are_equal_where_the_parts_are(self):
        for by in many(100):
            seed = by.random()
            one, other = some_jar(random.Random(seed)), some_jar(random.Random(seed))
            self.assertEqual(one, other)
            self.assertEqual(hash(swept(one, 30)), hash(swept(other, 30)))
            self.assertEqual(fitted((), one, 3, 5), fitted((), other, 3, 5))


if __name__ == "__main__":
    unittest.main()
