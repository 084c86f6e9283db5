"""The rows of the document's interface: each name is there, and takes as many things as it says there."""

import importlib
import inspect
import unittest

FUNCTIONS = {
    "names": "is_label 1 is_name 1 is_rule 1 is_table 1 within 2 labels 1 open_end 2 own_end 2",
    "paths": "is_path 1 under 2 folder 1",
    "asks": "is_ask 1 is_near 2",
    "giving": "is_given 1 read_given 1 given_text 1",
    "notes": "is_note 1 has_ended 2 goes 4 why_refused 3 made 4 key 1",
    "jars": "is_jar 1 swept 2 put 2 verdict 5 taken 5 sent 4 sent_text 4 used 4 forgotten 2",
    "room": "groups 2 fitted 4",
    "texts": "note_text 1 jar_text 1 read_jar 1",
    "looking": "by_group 2 ending 3 along 4",
    "comparing": "changed 2 merged 2",
}
CLASSES = {
    ("keepers", "Keeper"): "__init__ 3 notes 0 clock 0 hear 3 send 2 step 1 forget 1",
    ("desks", "Desk"): "__init__ 1 notes 0 give 3 sweep 1 forget 1 merge 1 back 0 forth 0 steps 0 twin 0",
}


def rows(text):
    words = text.split()
    return zip(words[::2], [int(word) for word in words[1::2]], strict=True)


class Interface(unittest.TestCase):
    def check(self, owner, name, count):
        parameters = inspect.signature(getattr(owner, name)).parameters.values()
        self.assertEqual([one.kind for one in parameters], [inspect.Parameter.POSITIONAL_OR_KEYWORD] * count, name)
        self.assertTrue(all([one.default is inspect.Parameter.empty for one in parameters]), name)

    def test_functions(self):
        for file, text in FUNCTIONS.items():
            for name, count in rows(text):
                self.check(importlib.import_module("notejar." + file), name, count)

    def test_classes(self):
        for (file, name), text in CLASSES.items():
            for method, count in rows(text):
                self.check(getattr(importlib.import_module("notejar." + file), name), method, count + 1)


if __name__ == "__main__":
    unittest.main()
