"""Those rules of LANGUAGE.md that can be read off the files of the package one by one."""

import ast
import builtins
import pathlib
import re
import unittest

PACKAGE = pathlib.Path(__file__).resolve().parent.parent / "notejar"
BUILT_IN = set("""len range enumerate zip min max sum abs sorted reversed int str bool list tuple dict set frozenset
    isinstance ord repr any all divmod Exception ValueError TypeError KeyError IndexError LookupError ZeroDivisionError
    ArithmeticError OverflowError RuntimeError NotImplementedError AttributeError StopIteration""".split())
METHODS = set("""append clear copy count endswith extend find get index insert isalnum isalpha isdigit islower isspace
    isupper items join keys ljust lower lstrip partition pop remove replace reverse rfind rjust rpartition rsplit rstrip
    setdefault split splitlines startswith strip update upper values zfill bit_length""".split())
# A value of an object may be called like these methods of Python's own values, and like no others.
VALUES = set("count index title find get join lower upper split strip copy add".split())
SPECIAL = {"__init__", "__eq__", "__repr__", "__str__", "__len__"}
WORDS = re.compile(r"\b(type|typing|typing_extensions|enum|Enum|IntEnum|StrEnum|Flag|IntFlag|Generic|Protocol|ABC|ABCMeta"
                   r"|namedtuple|NamedTuple|TypedDict|TYPE_CHECKING|abstractmethod)\b|dataclass|overload|contextmanager")
NODES = set("""Module ImportFrom alias FunctionDef ClassDef arguments arg Lambda Assign AugAssign If While For Return Break
    Continue Pass Raise Try ExceptHandler Expr Constant List Tuple Dict Set BinOp UnaryOp BoolOp Compare IfExp Call keyword
    Attribute Subscript Slice ListComp comprehension JoinedStr FormattedValue Name Load Store Add Sub Mult FloorDiv Mod Pow
    BitAnd BitOr BitXor LShift RShift Invert USub UAdd Not And Or Eq NotEq Lt LtE Gt GtE Is IsNot In NotIn""".split())


def files():
    return sorted(PACKAGE.glob("*.py"))


def trees():
    return [(file.name, ast.parse(file.read_text())) for file in files()]


def nodes():
    return [(f"{name}:{getattr(node, 'lineno', 0)}", node) for name, tree in trees() for node in ast.walk(tree)]


def bound_name(node):
    if isinstance(node, ast.Name):
        return node.id
    if isinstance(node, ast.arg):
        return node.arg
    if isinstance(node, (ast.FunctionDef, ast.ClassDef)):
        return node.name
    return node.attr if isinstance(node, ast.Attribute) else None


class Language(unittest.TestCase):
    def test_files(self):
        for file in PACKAGE.iterdir():
            if file.name != "__pycache__":
                self.assertRegex(file.name, r"\A([a-z][a-z0-9_]*|__init__)\.py\Z")

    def test_signs_lines_and_words(self):
        for file in files():
            text = file.read_bytes().decode("utf-8")
            lines = text.split("\n")
            self.assertLessEqual(len(lines) - 1, 400, file.name)
            self.assertLessEqual(max(len(line) for line in lines), 120, file.name)
            self.assertTrue(all(sign == "\n" or " " <= sign <= "~" for sign in text), file.name)
            self.assertIsNone(WORDS.search(text), file.name)

    def test_only_the_allowed_parts_of_the_language(self):
        for place, node in nodes():
            self.assertIn(type(node).__name__, NODES, place)
            if isinstance(node, (ast.FunctionDef, ast.ClassDef)):
                self.assertEqual(node.decorator_list, [], place)
            if isinstance(node, ast.Assign):
                self.assertEqual(len(node.targets), 1, place)
            if isinstance(node, ast.Constant):
                self.assertNotIsInstance(node.value, (float, bytes, complex), place)
            if isinstance(node, ast.ListComp):
                self.assertEqual(len(node.generators), 1, place)
            if isinstance(node, (ast.For, ast.While)):
                self.assertEqual(node.orelse, [], place)

    def test_size_of_functions(self):
        for place, node in nodes():
            if isinstance(node, ast.FunctionDef):
                self.assertLessEqual(node.end_lineno - node.lineno + 1, 40, place)
                self.assertIsNone(node.args.vararg or node.args.kwarg, place)
                self.assertEqual(node.args.kwonlyargs, [], place)

    def test_imports(self):
        for place, node in nodes():
            if isinstance(node, ast.ImportFrom):
                self.assertEqual(node.level, 0, place)
                self.assertRegex(node.module, r"\Anotejar\.[a-z_]+\Z", place)
                self.assertTrue((PACKAGE / (node.module.split(".")[1] + ".py")).is_file(), place)
                self.assertNotIn("*", [alias.name for alias in node.names], place)

    def test_names(self):
        for place, node in nodes():
            name = bound_name(node)
            if name is None or name in SPECIAL:
                continue
            self.assertFalse(name.startswith("_"), place)
            if isinstance(node, ast.Name) and isinstance(node.ctx, ast.Load):
                self.assertTrue(name in BUILT_IN or not hasattr(builtins, name), place)
            elif not isinstance(node, ast.Attribute):
                self.assertFalse(hasattr(builtins, name), place)

    def test_is_stands_beside_none_and_truths(self):
        for place, node in nodes():
            if isinstance(node, ast.Compare) and any(isinstance(sign, (ast.Is, ast.IsNot)) for sign in node.ops):
                held = node.comparators[-1]
                self.assertTrue(isinstance(held, ast.Constant) and held.value in (None, True, False), place)

    def test_texts(self):
        for place, node in nodes():
            if isinstance(node, ast.Constant) and isinstance(node.value, str):
                self.assertNotIn("%", node.value, place)

    def test_no_two_files_draw_from_one_another(self):
        drawn = {name[:-3]: {node.module.split(".")[1] for node in ast.walk(tree) if isinstance(node, ast.ImportFrom)}
                 for name, tree in trees()}
        while drawn:
            free = [name for name in drawn if not drawn[name] & set(drawn)]
            self.assertNotEqual(free, [], drawn)
            drawn = {name: drawn[name] for name in drawn if name not in free}

    def test_a_name_is_drawn_from_the_file_that_defines_it(self):
        defined = {}
        for name, tree in trees():
            names = [node.name for node in tree.body if isinstance(node, (ast.FunctionDef, ast.ClassDef))]
            names += [node.targets[0].id for node in tree.body if isinstance(node, ast.Assign)]
            self.assertEqual(len(names), len(set(names)), name)
            defined["notejar." + name[:-3]] = names
        for place, node in nodes():
            if isinstance(node, ast.ImportFrom):
                for alias in node.names:
                    self.assertIn(alias.name, defined[node.module], place)

    def test_no_local_is_called_like_an_import_or_a_class(self):
        for file, tree in trees():
            taken = {alias.name for node in ast.walk(tree) if isinstance(node, ast.ImportFrom) for alias in node.names}
            taken |= {node.name for node in tree.body if isinstance(node, ast.ClassDef)}
            for node in ast.walk(tree):
                if isinstance(node, ast.arg):
                    self.assertNotIn(node.arg, taken, file)
                if isinstance(node, ast.Name) and isinstance(node.ctx, ast.Store):
                    self.assertNotIn(node.id, taken, file)

    def test_methods(self):
        own = {node.name for place, node in nodes() if isinstance(node, ast.FunctionDef)}
        for place, node in nodes():
            if isinstance(node, ast.Call) and isinstance(node.func, ast.Attribute):
                self.assertIn(node.func.attr, METHODS | SPECIAL | own, place)

    def test_values_of_objects(self):
        taken = {name for kind in (str, int, list, tuple, dict, set, bytes) for name in dir(kind)} - VALUES
        methods = {node.name for place, owner in nodes() if isinstance(owner, ast.ClassDef) for node in owner.body
                   if isinstance(node, ast.FunctionDef)}
        for place, node in nodes():
            if isinstance(node, ast.Attribute) and isinstance(node.ctx, ast.Store):
                self.assertNotIn(node.attr, taken | methods, place)
                self.assertIsInstance(node.value, ast.Name, place)

    def test_methods_stand_once_in_a_class(self):
        for place, owner in nodes():
            if isinstance(owner, ast.ClassDef):
                names = [node.name for node in owner.body if isinstance(node, ast.FunctionDef)]
                self.assertEqual(len(names), len(set(names)), place)
                self.assertLessEqual(len(owner.bases), 1, place)


if __name__ == "__main__":
    unittest.main()
