"""What the document says of the whole, of texts, of what is looked for, of two jars and of desks: 0.2 (g) to (k) and 0.3;
and once more, over keepers and desks, 0.1 and 0.2 (a) to (f)."""

import unittest

from notejar.asks import is_near
from notejar.comparing import changed, merged
from notejar.desks import Desk
from notejar.errors import JarError, NoAsk, NoJar, NoName, NoNote, NoNumber, NoStep, NoTable, NoText
from notejar.giving import given_text, is_given, read_given
from notejar.jars import forgotten, is_jar, put, sent, sent_text, swept, taken, used, verdict
from notejar.keepers import Keeper
from notejar.looking import along, by_group, ending
from notejar.names import is_name, is_table, labels, open_end, own_end, within
from notejar.notes import goes, has_ended, is_note, key, made, why_refused
from notejar.paths import folder, under
from notejar.room import fitted, groups
from notejar.texts import jar_text, note_text, read_jar
from things import a_note, an_ask, any_things, copied, is_moment, many, refusal, some_ask, some_jar, some_note, some_table
from things import some_text

ASK = an_ask()
JAR = (a_note("m", ends=70), a_note(safe=True))


def some_small_jar(by):
    return some_jar(by)[:by.randrange(6)]


def do_some_step(desk, by, now):
    """Does one step, and tells its word, or None where it is refused."""
    step = by.choice(("give", "give", "give", "sweep", "forget", "merge"))
    handed = {"give": (some_ask(by), some_text(by), now), "sweep": (by.randrange(20, 60),),
              "forget": (by.choice(("a.b", "x.a.b", "c.d", "z")),), "merge": (some_small_jar(by),)}[step]
    return None if refusal(getattr(desk, step), *handed) else step


def some_desk(by):
    desk = Desk(some_table(by))
    for now in range(30, 30 + by.randrange(12)):
        do_some_step(desk, by, now)
    return desk


def all_of(desk):
    """All that a desk holds, as it stands now; what is told may not hang on the desk any more."""
    return {name: copied(value) for name, value in vars(desk).items()}


class Texts(unittest.TestCase):
    def test_they_read_back_as_what_they_write(self):
        for by in many(1000):
            jar = some_jar(by)
            self.assertEqual(repr(read_jar(jar_text(jar))), repr(jar))
            self.assertEqual(jar_text(jar), "".join([note_text(note) for note in jar]))

    def test_and_as_nothing_else(self):
        written = {}
        for by in many(1000):
            jar = some_jar(by)
            self.assertEqual(written.setdefault(jar_text(jar), jar), jar)

    def test_spoilt_texts(self):
        read = 0
        for by in many(3000):
            signs = list(jar_text(some_jar(by)[:3]))
            for count in range(by.randrange(1, 3)):
                place = by.randrange(len(signs) + 1)
                signs[place:place + by.randrange(2)] = by.choice(("", "0", "x", " ", "; safe", "\n", "=", "9", "/", "."))
            text = "".join(signs)
            if refusal(read_jar, text) is None:
                read += 1
                self.assertIs(is_jar(read_jar(text)), True)
                self.assertEqual(jar_text(read_jar(text)), text)
            else:
                self.assertIs(refusal(read_jar, text), NoText)
        self.assertGreater(read, 100)

    def test_jars_of_keepers_and_desks(self):
        for by in many(100):
            keeper = Keeper(some_table(by), 9, 20)
            for now in range(15):
                keeper.hear(some_ask(by), some_text(by), now)
            for jar in (keeper.notes(), some_desk(by).notes()):
                self.assertEqual(repr(read_jar(jar_text(jar))), repr(jar))


class LookedFor(unittest.TestCase):
    def test_each_note_is_in_one_group(self):
        for by in many(1000):
            table, jar = some_table(by), some_jar(by)
            told = by_group(table, jar)
            self.assertEqual([(group, len(keys)) for group, keys in told], groups(table, jar))
            self.assertEqual([group for group, keys in told], sorted(set([group for group, keys in told])))
            for group, keys in told:
                self.assertEqual(keys, sorted(set(keys)))
                for one in keys:
                    self.assertEqual(own_end(table, one[1]) or one[1], group)
            self.assertEqual(sorted([one for group, keys in told for one in keys]), sorted([key(note) for note in jar]))

    def test_what_ends_soon_is_what_is_swept_away_by_then_and_not_yet(self):
        found = 0
        for by in many(1000):
            jar, now, far = some_jar(by), by.randrange(25, 45), by.choice((0, 1, 2, 5, 15, 9900))
            yet, then = swept(jar, now), swept(jar, now + far)
            told = ending(jar, now, far)
            found += len(told)
            self.assertEqual(told, [note for note in yet if note not in then])
        self.assertGreater(found, 500)

    def test_along_with_the_asks_by_which_they_are_sent(self):
        for by in many(500):
            table, jar, asks = some_table(by), some_jar(by), [some_ask(by) for count in range(by.randrange(10))]
            told = along(table, jar, asks, 30)
            self.assertEqual([part[0] for part in told], [key(note) for note in jar])
            for number, ask in enumerate(asks):
                going = [one for one, numbers in told if number in numbers]
                self.assertEqual(sorted(going), sorted([key(note) for note in sent(table, jar, ask, 30)]))
            for one, numbers in told:
                self.assertEqual(numbers, sorted(set(numbers)))
                self.assertTrue(all([0 <= number < len(asks) for number in numbers]))


class TwoJars(unittest.TestCase):
    def jars(self, by):
        """Two that share some notes, some of them not just alike."""
        one = some_jar(by)
        other = [note if by.random() < 0.5 else note[:1] + ("8",) + note[2:] for note in one if by.random() < 0.7]
        return one, merged(tuple(other), some_small_jar(by)) if len(other) < 14 else tuple(other)

    def test_gone_and_new_lead_from_the_one_to_the_other(self):
        for by in many(1000):
            one, other = self.jars(by)
            gone, new, unlike = changed(one, other)
            by_key = {key(note): note for note in other}
            left = [note for note in one if key(note) not in gone + unlike] + [by_key[name] for name in new + unlike]
            self.assertEqual(sorted(left, key=key), sorted(other, key=key))
            for keys in (gone, new, unlike):
                self.assertEqual(keys, sorted(set(keys)))
            self.assertEqual(changed(other, one), (new, gone, unlike))
            self.assertEqual(changed(one, one), ([], [], []))

    def test_put_together_with_itself(self):
        for by in many(1000):
            jar = some_jar(by)
            told = merged(jar, jar)
            self.assertEqual(sorted(told), sorted(jar))
            self.assertEqual(changed(jar, told), ([], [], []))
            self.assertEqual(merged(told, told), told)
            self.assertEqual(merged(jar, ()), told)
            self.assertEqual(merged((), jar), told)

    def test_put_together(self):
        for by in many(1000):
            one, other = self.jars(by)
            keys = sorted(set([key(note) for note in one + other]))
            if len(keys) > 20:
                self.assertIs(refusal(merged, one, other), NoJar)
                continue
            told = merged(one, other)
            self.assertIs(is_jar(told), True)
            self.assertEqual(sorted([key(note) for note in told]), keys)
            self.assertEqual(list(told), sorted(told, key=lambda note: (note[8], key(note))))
            for note in told:
                both = [found for found in one + other if key(found) == key(note)]
                best = max([(found[9], found[8]) for found in both])
                # The first of the best ones is the one's, where both are as good.
                self.assertEqual(note, [found for found in both if (found[9], found[8]) == best][0])


class Desks(unittest.TestCase):
    def test_back_and_forth_step_by_step(self):
        moved = []
        for by in many(300):
            desk = Desk(some_table(by))
            jars, words, place = [()], [], 0
            for now in range(30, 60):
                move = by.choice(("step", "step", "step", "back", "forth", "forth"))
                if move == "back":
                    self.assertEqual(refusal(desk.twin().back), None if place > 0 else NoStep)
                    if place > 0:
                        place -= 1
                        self.assertEqual(desk.back(), words[place])
                        moved.append(words[place])
                elif move == "forth":
                    self.assertEqual(refusal(desk.twin().forth), None if place < len(words) else NoStep)
                    if place < len(words):
                        self.assertEqual(desk.forth(), words[place])
                        place += 1
                else:
                    word = do_some_step(desk, by, now)
                    if word is not None:
                        jars, words = jars[:place + 1] + [desk.notes()], words[:place] + [word]
                        place += 1
                self.assertEqual((desk.notes(), desk.steps()), (jars[place], (place, len(words) - place)))
        self.assertEqual(sorted(set(moved)), ["forget", "give", "merge", "sweep"])

    def test_a_twin_goes_its_own_way(self):
        for by in many(300):
            desk = some_desk(by)
            for count in range(by.randrange(4)):
                refusal(desk.back)
            twin = desk.twin()
            before = all_of(desk)
            self.assertEqual(all_of(twin), before)
            one, other = (desk, twin) if by.random() < 0.5 else (twin, desk)
            for now in range(50, 60):
                if by.random() < 0.5:
                    do_some_step(one, by, now)
                else:
                    refusal(by.choice((one.back, one.forth)))
                self.assertEqual(all_of(other), before)

    def test_both_do_the_same_when_the_same_is_done(self):
        for by in many(100):
            desk = some_desk(by)
            twin = desk.twin().twin()
            for now in range(50, 60):
                ask, text = some_ask(by), some_text(by)
                self.assertIs(refusal(desk.give, ask, text, now), refusal(twin.give, ask, text, now))
                self.assertEqual(desk.back() if desk.steps()[0] else None, twin.back() if twin.steps()[0] else None)
                self.assertEqual(desk.sweep(now), twin.sweep(now))
                self.assertEqual(all_of(desk), all_of(twin))


class OnceMore(unittest.TestCase):
    """(a) to (f), over what keepers and desks hold."""

    def told(self, by):
        """For each text that a keeper heard and that was given at a desk: the table, the ask, the text, the moment, the word,
        the jar ahead of it and the jar behind it."""
        table = some_table(by)
        keeper, desk = Keeper(table, 20, 20), Desk(table)
        for now in range(30, 45):
            for holder, step in ((keeper, keeper.hear), (desk, desk.give)):
                ask, text, before = some_ask(by), some_text(by), holder.notes()
                word = step(ask, text, now)
                self.assertEqual(word, verdict(table, before, ask, text, now))
                yield table, ask, text, now, word, before, holder.notes()

    def test_open_and_own_ends_within_and_under(self):
        for by in many(100):
            for table, ask, text, now, word, before, jar in self.told(by):
                for name, house, path in [key(note) for note in jar]:
                    own, whole = own_end(table, house), open_end(table, house)
                    self.assertIs(within(house, whole), True)
                    self.assertIs(own is None, house == whole)
                    if own is not None:
                        self.assertEqual(labels(own)[1:], labels(whole))
                        self.assertIs(within(house, own), True)
                        self.assertEqual(open_end(table, own), whole)
                    for top in ("/", path, folder(path)):
                        self.assertIs(under(path, top), True)

    def test_what_is_kept_may_be_given_and_goes_along(self):
        for by in many(100):
            for table, ask, text, now, word, before, jar in self.told(by):
                given = read_given(text)
                self.assertIs(is_given(given), True)
                self.assertEqual(read_given(given_text(given)), given)
                if word == "kept":
                    self.assertIsNone(why_refused(table, ask, given))
                    new = [note for note in jar if key(note) == key(made(table, ask, given, now))]
                    self.assertEqual(len(new), 1)
                    self.assertIs(goes(table, new[0], ask, now), under(ask[2], new[0][4]))

    def test_no_key_twice(self):
        for by in many(100):
            for table, ask, text, now, word, before, jar in self.told(by):
                self.assertIs(is_jar(jar), True)
                self.assertEqual(len(set([key(note) for note in jar])), len(jar))

    def test_notes_of_unlike_names_in_either_order(self):
        for by in many(300):
            one = some_desk(by)
            other = one.twin()
            first, last = (some_ask(by), some_text(by), 60), (some_ask(by), some_text(by), 60)
            if read_given(first[1])[0] == read_given(last[1])[0] or len(one.notes()) > 18:
                continue
            words = one.give(*first), one.give(*last)
            self.assertEqual((other.give(*last), other.give(*first)), (words[1], words[0]))
            self.assertEqual(sorted(one.notes(), key=key), sorted(other.notes(), key=key))

    def test_no_note_goes_where_it_may_not(self):
        for by in many(100):
            for table, ask, text, now, word, before, jar in self.told(by):
                asks = [ask, some_ask(by), some_ask(by)]
                for note, (name, numbers) in zip(jar, along(table, jar, asks, now), strict=True):
                    for number in numbers:
                        there = asks[number]
                        self.assertTrue(there[1] == note[2] or not note[3] and within(there[1], note[2]))
                        self.assertTrue(there[0] or not note[6])
                        self.assertFalse(has_ended(note, now))
                        self.assertTrue(note[7] == "any" or is_near(table, there))

    def test_no_more_than_there_is_room_for(self):
        for by in many(100):
            each, most = by.randrange(4), by.randrange(8)
            for table, ask, text, now, word, before, jar in self.told(by):
                left = fitted(table, jar, each, most)
                self.assertLessEqual(len(left), most)
                for group, keys in by_group(table, left):
                    self.assertLessEqual(len(keys), each)


class Story(unittest.TestCase):
    def test_all_of_it(self):
        table = ("!www.ck", "*.ck")
        ask = (True, "x.shop.ck", "/notes/today", None)
        self.assertEqual((open_end(table, "x.shop.ck"), own_end(table, "x.shop.ck")), ("shop.ck", "x.shop.ck"))
        keeper = Keeper(table, 2, 3)
        self.assertEqual(keeper.hear(ask, "n=1; for shop.ck", 1), "open")
        self.assertEqual(keeper.hear(ask, "n=1; safe; lasts 10", 1), "kept")
        self.assertEqual(keeper.hear((False, "x.shop.ck", "/notes/now", None), "n=2", 2), "shadowed")
        self.assertEqual(keeper.hear(ask, "m=3; under /; until 40", 3), "kept")
        self.assertEqual(keeper.send(ask, 4), "n=1; m=3")
        self.assertEqual(keeper.hear(ask, "k=4; near", 5), "kept")
        self.assertEqual([note[0] for note in keeper.notes()], ["n", "k"])
        self.assertEqual(keeper.send((True, "x.shop.ck", "/notes/now", "a.b"), 6), "n=1")
        text = jar_text(keeper.notes())
        self.assertEqual(text, "n=1; only x.shop.ck; under /notes; until 11; safe; made 1; used 6\n"
                               "k=4; only x.shop.ck; under /notes; near; made 5; used 5\n")
        desk = Desk(table)
        self.assertEqual(desk.merge(read_jar(text)), 2)
        self.assertEqual(by_group(table, desk.notes()),
                         [("x.shop.ck", [("k", "x.shop.ck", "/notes"), ("n", "x.shop.ck", "/notes")])])
        self.assertEqual([note[0] for note in ending(desk.notes(), 6, 5)], ["n"])
        self.assertEqual(desk.sweep(11), 1)
        self.assertEqual(changed(keeper.notes(), desk.notes()), ([("n", "x.shop.ck", "/notes")], [], []))
        self.assertEqual((desk.back(), desk.steps()), ("sweep", (1, 1)))
        self.assertEqual(desk.notes(), keeper.notes())
        twin = desk.twin()
        self.assertEqual((twin.forth(), twin.forget("ck")), ("sweep", 1))
        self.assertEqual((twin.notes(), desk.notes()), ((), keeper.notes()))
        self.assertEqual((keeper.step(11), keeper.forget("ck"), keeper.notes(), keeper.clock()), (None, 1, (), 11))


class AnyThing(unittest.TestCase):
    def test_jars_are_refused_by_their_class(self):
        for thing in any_things():
            due = None if is_jar(thing) else NoJar
            self.assertIs(refusal(jar_text, thing), due)
            self.assertIs(refusal(by_group, (), thing), due)
            self.assertIs(refusal(ending, thing, 9, 5), due)
            self.assertIs(refusal(along, (), thing, [ASK], 9), due)
            for call in (changed, merged):
                self.assertIs(refusal(call, thing, JAR), due)
                self.assertIs(refusal(call, JAR, thing), due)
                self.assertIs(refusal(call, thing, thing), due)

    def test_tables_are_refused_by_their_class(self):
        for thing in any_things():
            due = None if is_table(thing) else NoTable
            for call, handed in ((by_group, (JAR,)), (along, (JAR, [ASK], 9)), (Desk, ())):
                self.assertIs(refusal(call, thing, *handed), due)
                if due is not None:
                    self.assertIs(refusal(call, *[thing for part in (thing,) + handed]), NoTable)

    def test_texts_are_refused_by_their_class(self):
        for thing in any_things():
            due = None if isinstance(thing, str) and thing == "" else NoText
            self.assertIs(refusal(read_jar, thing), due)

    def test_lists_of_asks_are_refused_by_their_class(self):
        for thing in any_things():
            due = None if isinstance(thing, list) and thing == [] else NoAsk
            self.assertIs(refusal(along, (), JAR, thing, 9), due)
            self.assertIs(refusal(along, (), JAR, [thing], 9), NoAsk)
            self.assertIs(refusal(along, (), JAR, [ASK, thing], 9), NoAsk)
            self.assertIs(refusal(along, (), JAR, thing, thing), due or NoNumber)

    def test_moments_are_refused_by_their_class(self):
        for thing in any_things():
            due = None if is_moment(thing) else NoNumber
            self.assertIs(refusal(ending, JAR, thing, 5), due)
            self.assertIs(refusal(ending, JAR, 9, thing), due)
            self.assertIs(refusal(ending, JAR, thing, thing), due)
            self.assertIs(refusal(along, (), JAR, [ASK], thing), due)

    def test_what_is_handed_in_is_not_changed(self):
        for thing in any_things():
            kept = copied(thing)
            for call in (jar_text, read_jar, Desk):
                refusal(call, thing)
            for call in (by_group, changed, merged):
                refusal(call, thing, thing)
            refusal(ending, thing, thing, thing)
            refusal(along, thing, thing, thing, thing)
            refusal(along, (), JAR, thing, 9)
            desk = Desk(())
            refusal(desk.give, thing, thing, thing)
            for call in (desk.sweep, desk.forget, desk.merge):
                refusal(call, thing)
            self.assertEqual(thing, kept)

    def test_all_refusals_are_jar_errors(self):
        for call, handed in ((jar_text, (1,)), (read_jar, ("n",)), (by_group, (1, ())), (ending, ((), -1, 5)), (Desk, (1,)),
                             (along, ((), (), (), 5)), (changed, (1, ())), (merged, ((), 1)), (Desk(()).give, (1, "n=5", 5)),
                             (Desk(()).sweep, (-1,)), (Desk(()).forget, ("7",)), (Desk(()).merge, ([],)), (Desk(()).back, ()),
                             (Desk(()).forth, ())):
            with self.assertRaises(JarError):
                call(*handed)


class DesksRefuse(unittest.TestCase):
    def desk(self):
        desk = Desk(())
        desk.merge(JAR)
        desk.give(ASK, "k=5", 20)
        desk.sweep(70)
        desk.back()
        return desk

    def check(self, due, method, *handed):
        desk = self.desk()
        before = all_of(desk)
        self.assertIs(refusal(getattr(desk, method), *handed), due)
        if due is not None:
            self.assertEqual(all_of(desk), before)

    def test_any_thing(self):
        for thing in any_things():
            self.check(NoAsk, "give", thing, "n=5", 20)
            self.check(NoAsk, "give", thing, thing, thing)
            self.check(NoNote, "give", ASK, thing, 20)
            self.check(NoNote, "give", ASK, thing, thing)
            # The last note was used at 20: what is ahead of that is refused too.
            self.check(None if is_moment(thing) and thing >= 20 else NoNumber, "give", ASK, "n=5", thing)
            self.check(None if is_moment(thing) else NoNumber, "sweep", thing)
            self.check(None if is_name(thing) else NoName, "forget", thing)
            self.check(None if is_jar(thing) else NoJar, "merge", thing)

    def test_no_step(self):
        for desk in (Desk(()), self.desk()):
            while desk.steps()[0]:
                desk.back()
            before = all_of(desk)
            self.assertIs(refusal(desk.back), NoStep)
            self.assertEqual(all_of(desk), before)
            while desk.steps()[1]:
                desk.forth()
            before = all_of(desk)
            self.assertIs(refusal(desk.forth), NoStep)
            self.assertEqual(all_of(desk), before)

    def test_refused_desks_and_keepers_go_on_as_if_nothing_was_handed_in(self):
        for by in many(100):
            one = some_desk(by)
            other = one.twin()
            for now in range(50, 60):
                for call, handed in ((one.give, (None, "n=5", now)), (one.give, (ASK, "", now)), (one.give, (ASK, "n=5", 10000)),
                                     (one.sweep, (True,)), (one.forget, ("7",)), (one.merge, ([],)), (one.merge, (JAR + JAR,))):
                    self.assertIsNotNone(refusal(call, *handed))
                self.assertEqual(one.sweep(now), other.sweep(now))
                self.assertEqual(one.back(), other.back())
                self.assertEqual(all_of(one), all_of(other))


def spoil(told):
    """Changes a told list, and those within it, in every way."""
    for part in told:
        if isinstance(part, (list, tuple)):
            spoil(part)
    if isinstance(told, list):
        told.append("more")
        told[0] = None
        told.reverse()


class ToldLists(unittest.TestCase):
    def test_told_lists_may_be_changed(self):
        for by in many(100):
            table, jar, other, ask = some_table(by), some_jar(by), some_jar(by), some_ask(by)
            asks = [some_ask(by) for count in range(4)]
            for call, handed in ((sent, (table, jar, ask, 30)), (groups, (table, jar)), (by_group, (table, jar)),
                                 (ending, (jar, 29, 5)), (along, (table, jar, asks, 30)), (changed, (jar, other)),
                                 (labels, ("a.b.c",))):
                kept = copied(handed)
                before = copied(call(*handed))
                spoil(call(*handed))
                self.assertEqual(call(*handed), before)
                self.assertEqual(handed, kept)
                self.assertTrue(call(*handed) is not call(*handed))

    def test_jars_told_by_desks_and_keepers_stay(self):
        for by in many(50):
            desk, keeper = some_desk(by), Keeper((), 5, 9)
            keeper.hear(some_ask(by), some_text(by), 5)
            told = [(holder.notes(), copied(holder.notes())) for holder in (desk, keeper)]
            desk.forget("b")
            desk.merge((some_note(by),))
            keeper.send(some_ask(by), 7)
            keeper.forget("b")
            for jar, kept in told:
                self.assertEqual(jar, kept)

    def test_what_is_handed_in_stays_as_it_was(self):
        for by in many(200):
            table, jar, other, ask, text = some_table(by), some_jar(by), some_small_jar(by), some_ask(by), some_text(by)
            note, asks = a_note(made=40, used=40), [some_ask(by) for count in range(by.randrange(10))]
            handed = [table, jar, other, ask, text, note, asks]
            kept = copied(handed)
            for call, parts in ((taken, (table, jar, ask, text, 30)), (put, (jar, note)), (used, (table, jar, ask, 30)),
                                (sent_text, (table, jar, ask, 30)), (fitted, (table, jar, 2, 5)), (forgotten, (jar, "b")),
                                (along, (table, jar, asks, 30)), (merged, (jar, other)), (changed, (jar, other)),
                                (by_group, (table, jar)), (ending, (jar, 29, 2)), (jar_text, (jar,)), (note_text, (note,))):
                refusal(call, *parts)
            self.assertEqual(handed, kept)
            self.assertIs(is_note(note), True)


if __name__ == "__main__":
    unittest.main()
