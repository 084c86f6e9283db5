import itertools
import re
import unittest

from notejar.errors import NoJar, NoText
from notejar.jars import is_jar
from notejar.texts import jar_text, note_text, read_jar
from things import WRONG_JARS, a_note, numbered, refusal

EXAMPLE = "n=5; only a.b; under /; until 70; safe; made 3; used 9"
EXAMPLE_NOTE = ("n", "5", "a.b", True, "/", 70, True, "any", 3, 9)
LABEL = r"[a-z0-9](?:[a-z0-9-]{0,6}[a-z0-9])?"
NAME = rf"(?:{LABEL}\.){{0,4}}(?![0-9]+;){LABEL}"
MOMENT = r"(?:0|[1-9][0-9]{0,3})"
LINE = re.compile(rf"([A-Za-z0-9_-]{{1,10}})=((?:(?![;,=])[!-~]){{0,12}}); (only|for) ({NAME}); under (/[a-z0-9_./-]{{0,19}})"
                  rf"(?:; until ({MOMENT}))?(; safe)?(; near)?; made ({MOMENT}); used ({MOMENT})\n")


def told_by(text):
    """The jar of which the text is the writing, by the words of 9.1, or None."""
    notes = []
    while text:
        found = LINE.match(text)
        if found is None:
            return None
        name, worth, word, house, path, ends, safe, near, made, used = found.groups()
        notes.append((name, worth, house, word == "only", path, None if ends is None else int(ends), safe is not None,
                      "any" if near is None else "near", int(made), int(used)))
        text = text[found.end():]
    return tuple(notes) if is_jar(tuple(notes)) else None


def many_notes(name="n"):
    return itertools.product((name,), ("", "5", "!~"), ("b", "x-1.a.b"), (True, False), ("/", "/x/y_.-"), (None, 0, 70, 9999),
                             (True, False), ("any", "near"), (0, 3), (3, 9, 9999))


TEXTS = (EXAMPLE + "\n", "N-_0=; for a.b; under /x; near; made 0; used 0\n",
         "k=!~; for b; under /; made 3; used 3\nm=5; only x.a.b; under /x/y; until 0; safe; near; made 3; used 10\n",
         EXAMPLE + "\nm=6; for a.b; under /; made 12; used 12\nn=5; for b; under /x; until 9999; made 12; used 9999\n")


class Writing(unittest.TestCase):
    def test_the_documents_own_example(self):
        self.assertEqual(note_text(EXAMPLE_NOTE), EXAMPLE + "\n")
        self.assertEqual(jar_text((EXAMPLE_NOTE,)), EXAMPLE + "\n")

    def test_each_part_there_and_not_there(self):
        for note in many_notes():
            name, worth, house, exact, path, ends, safe, reach, made, used = note
            told = [name + "=" + worth, ("only " if exact else "for ") + house, "under " + path]
            told += [] if ends is None else [f"until {ends}"]
            told += ["safe"] if safe else []
            told += ["near"] if reach == "near" else []
            told += [f"made {made}", f"used {used}"]
            self.assertEqual(note_text(note), "; ".join(told) + "\n")

    def test_none_and_all_of_the_parts(self):
        self.assertEqual(note_text(a_note(worth="", house="b", made=0, used=0)), "n=; for b; under /; made 0; used 0\n")
        self.assertEqual(note_text(a_note("N", "!", "b", True, "/x", 0, True, "near", 0, 9999)),
                         "N=!; only b; under /x; until 0; safe; near; made 0; used 9999\n")

    def test_jars(self):
        self.assertEqual(jar_text(()), "")
        self.assertEqual(jar_text((a_note(),)), "n=5; for a.b; under /; made 3; used 9\n")
        self.assertEqual(jar_text((a_note("z"), a_note("a", ends=5))),
                         "z=5; for a.b; under /; made 3; used 9\na=5; for a.b; under /; until 5; made 3; used 9\n")
        self.assertEqual(jar_text(numbered(20)), "".join([note_text(note) for note in numbered(20)]))
        self.assertEqual(jar_text(numbered(20)).count("\n"), 20)

    def test_refusals(self):
        for wrong in WRONG_JARS:
            self.assertIs(refusal(jar_text, wrong), NoJar, repr(wrong))

    def test_nothing_is_refused_somewhat_beyond_the_bounds(self):
        far = a_note("abcdefghijk", "abcdefghijklm", "a.b.c.d.e.f", path="/" + "x" * 20, ends=10000, made=10001, used=10002)
        self.assertEqual(note_text(far), "abcdefghijk=abcdefghijklm; for a.b.c.d.e.f; under /" + "x" * 20
                         + "; until 10000; made 10001; used 10002\n")


class ReadBack(unittest.TestCase):
    def check_read(self, jar):
        told = read_jar(jar_text(jar))
        self.assertEqual(repr(told), repr(jar))

    def test_the_documents_own_example(self):
        self.assertEqual(repr(read_jar(EXAMPLE + "\n")), repr((EXAMPLE_NOTE,)))

    def test_the_empty_text(self):
        self.assertEqual(read_jar(""), ())
        self.assertIsInstance(read_jar(""), tuple)

    def test_one_note(self):
        for note in many_notes():
            self.check_read((note,))

    def test_several(self):
        for one, other in zip(many_notes("k"), reversed(list(many_notes("m"))), strict=True):
            for jar in ((one, other), (other, one)):
                if is_jar(jar):
                    self.check_read(jar)
                else:
                    self.assertIs(refusal(read_jar, note_text(jar[0]) + note_text(jar[1])), NoText)
        for count in range(21):
            self.check_read(numbered(count))

    def test_the_edges_of_names_worths_houses_and_paths(self):
        for name in ("a", "Z", "-", "_", "0", "abcdefghij", "safe", "only", "for", "made", "until-5"):
            self.check_read((a_note(name),))
        for worth in ("", "!", "~", "only", "for", "safe", "made", "\"", "'", "\\", "0", "abcdefghijkl", "/:<>?@[]^`{|}"[:12]):
            self.check_read((a_note(worth=worth),))
        for house in ("a", "9a", "a.b.c.d.e", "abcdefgh.b", "a--b", "for", "only.a", "9.a"):
            self.check_read((a_note(house=house),))
            self.check_read((a_note(house=house, exact=True),))
        for path in ("/", "//", "/.", "/" + "a" * 19, "/a-b_c.d/"):
            self.check_read((a_note(path=path),))


class OtherTexts(unittest.TestCase):
    def setUp(self):
        self.read = 0
        self.refused = 0

    def check(self, text):
        due = told_by(text)
        if due is None:
            self.refused += 1
            self.assertIs(refusal(read_jar, text), NoText, repr(text))
        else:
            self.read += 1
            self.assertEqual(repr(read_jar(text)), repr(due), repr(text))
            self.assertEqual(jar_text(due), text)

    def check_refused(self, *texts):
        for text in texts:
            self.assertIsNone(told_by(text), repr(text))
            self.assertIs(refusal(read_jar, text), NoText, repr(text))

    def test_the_texts_themselves_are_read(self):
        for text in TEXTS + ("",):
            self.check(text)
        self.assertEqual(self.read, len(TEXTS) + 1)

    def test_a_sign_left_out_or_twice(self):
        for text in TEXTS:
            for place in range(len(text)):
                self.check(text[:place] + text[place + 1:])
                self.check(text[:place] + text[place] + text[place:])
        self.assertGreater(self.read, 20)
        self.assertGreater(self.refused, 200)

    def test_another_sign_or_one_more(self):
        for text in TEXTS:
            for place, sign in itertools.product(range(len(text)), "\n !*,-./059:;=AZ_afnsx~"):
                self.check(text[:place] + sign + text[place + 1:])
                self.check(text[:place] + sign + text[place:])
        self.assertGreater(self.read, 200)
        self.assertGreater(self.refused, 2000)

    def test_all_signs_at_a_place(self):
        signs = [chr(number) for number in range(32, 127)] + ["\n"]
        for place, sign in itertools.product(range(len(EXAMPLE) + 1), signs):
            self.check(EXAMPLE[:place] + sign + EXAMPLE[place:] + "\n")

    def test_two_signs_exchanged(self):
        for text in TEXTS:
            for place in range(len(text) - 1):
                self.check(text[:place] + text[place + 1] + text[place] + text[place + 2:])

    def test_lines(self):
        for text in TEXTS + (jar_text(numbered(20)), jar_text(numbered(19))):
            lines = text.splitlines(keepends=True)
            for place in range(len(lines)):
                self.check("".join(lines[:place] + lines[place + 1:]))
                self.check("".join(lines[:place] + [lines[place]] + lines[place:]))
                self.check("".join(lines[:place] + ["\n"] + lines[place:]))
                self.check("".join(lines[:place] + ["q=5; for a.b; under /; made 3; used 3\n"] + lines[place:]))
                for other in range(place):
                    exchanged = list(lines)
                    exchanged[place], exchanged[other] = lines[other], lines[place]
                    self.check("".join(exchanged))
        self.assertGreater(self.read, 20)
        self.assertGreater(self.refused, 200)

    def test_parts(self):
        others = ("safe", "near", "any", "exact", "only a.b", "for a.b", "for b", "only", "for", "under /", "under /x", "under",
                  "until 70", "until 5", "until", "lasts 5", "made 3", "made 0", "made", "used 9", "used 3", "used", "", " ", "n=5")
        for text in TEXTS:
            parts = text[:-1].split("; ")
            for place in range(len(parts)):
                self.check("; ".join(parts[:place] + parts[place + 1:]) + "\n")
                self.check("; ".join(parts[:place] + [parts[place]] + parts[place:]) + "\n")
                for other in range(place):
                    exchanged = list(parts)
                    exchanged[place], exchanged[other] = parts[other], parts[place]
                    self.check("; ".join(exchanged) + "\n")
                for other in others:
                    self.check("; ".join(parts[:place] + [other] + parts[place + 1:]) + "\n")
                    self.check("; ".join(parts[:place] + [other] + parts[place:]) + "\n")
                    self.check("; ".join(parts[:place + 1] + [other] + parts[place + 1:]) + "\n")
        self.assertGreater(self.read, 50)
        self.assertGreater(self.refused, 500)

    def test_every_order_of_the_parts(self):
        parts = (EXAMPLE + "; near").split("; ")
        first, rest = parts[0], parts[1:]
        for order in itertools.permutations(rest):
            self.check("; ".join((first,) + order) + "\n")
        self.assertEqual(self.read, 1)

    def test_moments(self):
        for word, moment in itertools.product(("until 70", "made 3", "used 9"),
                                              ("00", "03", "070", "0070", "00070", "10000", "-1", "-0", "+3", "3.0", "3_0", "1e1",
                                               " 3", "3 ", "", "x", "None", "\u0663", "\u00b3", "9999999999")):
            text = EXAMPLE.replace(word, word.split(" ")[0] + " " + moment) + "\n"
            self.check_refused(text)
        for word, moment in itertools.product(("until 70", "used 9"), ("3", "4", "10", "999", "1000", "9999")):
            self.check(EXAMPLE.replace(word, word.split(" ")[0] + " " + moment) + "\n")
        self.assertEqual(self.refused, 0)

    def test_blanks(self):
        for text in TEXTS:
            for place in range(len(text) + 1):
                self.check_refused(text[:place] + " " + text[place:])
            for place in range(len(text)):
                if text[place] == " ":
                    self.check_refused(text[:place] + text[place + 1:])

    def test_line_feeds(self):
        for text in TEXTS:
            self.check_refused(text[:-1], text + "\n", "\n" + text, text[:-1] + " \n", text[:-1] + "; \n", text[:-1] + ";\n",
                               text.replace("\n", "\r\n"), text.replace("\n", "\r"), text.replace("\n", "\n\n"), text + " ",
                               text + "\n\n", text.replace("\n", ""), text + "n")
        self.check_refused("\n", "\n\n", " ", ";", "n", "n=5", "n=5\n", "=\n", EXAMPLE + "\n" + EXAMPLE)

    def test_other_words(self):
        for old, new in (("only", "Only"), ("only", "for  "), ("only", "exact"), ("under", "path"), ("until", "ends"),
                         ("safe", "Safe"), ("safe", "near; safe"), ("safe", "any"), ("safe", "safe; any"), ("made", "lasts"),
                         ("used", "made"), ("made 3; ", ""), ("; used 9", ""), ("only a.b; ", ""), ("under /; ", "")):
            self.check_refused(EXAMPLE.replace(old, new) + "\n")

    def test_wrong_parts(self):
        for old, new in (("n=", "="), ("n=", "n n="), ("n=", "abcdefghijk="), ("n=", "n==" ), ("n=5", "n"), ("5", "abcdefghijklm"),
                         ("5", "a,b"), ("a.b", "A.b"), ("a.b", "7"), ("a.b", "a..b"), ("a.b", "a.b.c.d.e.f"), ("a.b", ""),
                         ("a.b", "*.b"), ("under /", "under x"), ("under /", "under /A"), ("under /", "under /" + "a" * 20)):
            self.check_refused(EXAMPLE.replace(old, new, 1) + "\n")

    def test_notes_that_are_no_jar(self):
        line = "n=5; for a.b; under /; made 3; used 9\n"
        self.check_refused(line + line, line + line.replace("=5", "=6"), line + "m" + line[1:] + line,
                           line + line.replace("for", "only"), line + "m" + line[1:].replace("made 3", "made 2"),
                           line.replace("made 3", "made 10"), line + line.replace("made 3; used 9", "made 4; used 10"),
                           "".join([note_text(note) for note in numbered(21)]))
        for text in (line + "m" + line[1:], line + line.replace("/", "/x"), line + line.replace("a.b", "b")):
            self.check(text)
        self.assertEqual(self.read, 3)

    def test_signs_beyond_the_document(self):
        self.check_refused("\u00e9=5; for a.b; under /; made 3; used 9\n", EXAMPLE + "\u2028", EXAMPLE + "\x0b", EXAMPLE + "\x0c",
                           EXAMPLE + "\x85", EXAMPLE.replace("5", "\t") + "\n", EXAMPLE.replace("5", "\u0665") + "\n", "\0", "\ud800")

    def test_what_is_no_text(self):
        for wrong in (None, True, False, 0, 5, [], [EXAMPLE + "\n"], (), (EXAMPLE + "\n",), (EXAMPLE_NOTE,), EXAMPLE_NOTE):
            self.assertIs(refusal(read_jar, wrong), NoText, repr(wrong))


if __name__ == "__main__":
    unittest.main()
