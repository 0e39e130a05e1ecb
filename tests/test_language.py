"""That the package's files keep to the part of Python that the program is written in, as far as a walk can see it."""

import ast
import builtins
import pathlib
import re
import unittest

PACKAGE = pathlib.Path(__file__).resolve().parent.parent / "mightever"

STATEMENTS = (ast.Assign, ast.AugAssign, ast.If, ast.While, ast.For, ast.Return, ast.Break, ast.Continue, ast.Pass,
              ast.Raise, ast.Try, ast.Expr, ast.FunctionDef, ast.ClassDef, ast.ImportFrom)
EXPRESSIONS = (ast.Constant, ast.Name, ast.Attribute, ast.Subscript, ast.Slice, ast.Call, ast.BinOp, ast.UnaryOp,
               ast.BoolOp, ast.Compare, ast.IfExp, ast.List, ast.Tuple, ast.Dict, ast.ListComp, ast.JoinedStr,
               ast.FormattedValue, ast.Lambda)
OWN_NAMES = """len range enumerate zip min max sum abs sorted reversed int str bool list tuple dict set frozenset
    isinstance ord repr any all divmod ValueError KeyError IndexError LookupError ZeroDivisionError ArithmeticError
    OverflowError RuntimeError NotImplementedError StopIteration Exception""".split()
OWN_METHODS = """append clear copy count endswith extend find get index insert isalnum isalpha isdigit islower isspace
    isupper items join keys ljust lower lstrip partition pop remove replace reverse rfind rjust rpartition rsplit rstrip
    setdefault split splitlines startswith strip update upper values zfill bit_length""".split()
DOUBLE = ["__init__", "__eq__", "__repr__", "__str__", "__len__"]
WORDS = """type typing typing_extensions enum Enum IntEnum StrEnum Flag IntFlag Generic Protocol ABC ABCMeta namedtuple
    NamedTuple TypedDict TYPE_CHECKING abstractmethod""".split()
PARTS = ["dataclass", "overload", "contextmanager"]
VALUES_OUT = """items keys values pop update append clear extend insert remove reverse setdefault sort args encode
    format""".split()


def files():
    return sorted(PACKAGE.rglob("*.py"))


def trees():
    return [(path, ast.parse(path.read_text(encoding="utf-8"))) for path in files()]


def all_nodes():
    return [(f"{path.name}:{getattr(node, 'lineno', 0)}", node) for path, tree in trees() for node in ast.walk(tree)]


def methods_and_values():
    methods, values = set(), set()
    for _, node in all_nodes():
        if isinstance(node, ast.ClassDef):
            methods.update(part.name for part in node.body if isinstance(part, ast.FunctionDef))
        if isinstance(node, ast.Attribute) and isinstance(node.ctx, ast.Store):
            values.add(node.attr)
    return methods, values


class TestFiles(unittest.TestCase):
    def test_nothing_but_plain_files_of_python(self):
        for path in PACKAGE.rglob("*"):
            if "__pycache__" not in path.parts and path.is_file():
                self.assertRegex(path.name, r"^([a-z][a-z0-9_]*|__init__|__main__)\.py$")
        self.assertTrue((PACKAGE / "__init__.py").is_file())

    def test_signs_and_sizes(self):
        for path in files():
            text = path.read_text(encoding="utf-8")
            self.assertRegex(text, r"\A[ -~\n]*\Z", path.name)
            rows = text.split("\n")
            self.assertLessEqual(len(rows), 400, path.name)
            self.assertLessEqual(max(len(row) for row in rows), 120, path.name)
        for place, node in all_nodes():
            if isinstance(node, ast.FunctionDef):
                self.assertLessEqual(node.end_lineno - node.lineno + 1, 40, place)

    def test_words_that_stand_nowhere(self):
        for path in files():
            text = path.read_text(encoding="utf-8")
            self.assertEqual(sorted(set(re.findall(r"\w+", text)) & set(WORDS)), [], path.name)
            self.assertEqual([part for part in PARTS if part in text], [], path.name)


class TestForms(unittest.TestCase):
    def test_statements_and_expressions(self):
        for place, node in all_nodes():
            if isinstance(node, ast.stmt):
                self.assertIsInstance(node, STATEMENTS, place)
            if isinstance(node, ast.expr):
                self.assertIsInstance(node, EXPRESSIONS, place)
            if isinstance(node, (ast.For, ast.While)):
                self.assertEqual(node.orelse, [], place)
            if isinstance(node, ast.Assign):
                self.assertEqual(len(node.targets), 1, place)
            if isinstance(node, ast.Try):
                self.assertEqual(node.finalbody, [], place)
            if isinstance(node, ast.ListComp):
                self.assertEqual(len(node.generators), 1, place)
                self.assertLessEqual(len(node.generators[0].ifs), 1, place)

    def test_texts_and_calls_by_themselves(self):
        for path, tree in trees():
            for node in ast.walk(tree):
                if isinstance(node, ast.Expr) and node is not tree.body[0]:
                    self.assertIsInstance(node.value, ast.Call, f"{path.name}:{node.lineno}")

    def test_values(self):
        for place, node in all_nodes():
            if isinstance(node, ast.Constant):
                self.assertIsInstance(node.value, (int, str, type(None)), place)
                self.assertFalse(isinstance(node.value, str) and "%" in node.value, place)
            if isinstance(node, ast.BinOp):
                self.assertNotIsInstance(node.op, (ast.Div, ast.MatMult), place)
                if isinstance(node.op, ast.Pow):
                    self.assertIsInstance(node.right, ast.Constant, place)
            if isinstance(node, ast.Compare):
                for sign, thing in zip(node.ops, node.comparators):
                    if isinstance(sign, (ast.Is, ast.IsNot)):
                        self.assertTrue(isinstance(thing, ast.Constant) and thing.value in (None, True, False), place)

    def test_functions_and_classes(self):
        for place, node in all_nodes():
            if isinstance(node, ast.FunctionDef):
                rest = node.args
                self.assertEqual((node.decorator_list, rest.vararg, rest.kwarg), ([], None, None), place)
                self.assertEqual((rest.kwonlyargs, rest.posonlyargs), ([], []), place)
            if isinstance(node, ast.ClassDef):
                self.assertEqual((node.decorator_list, node.keywords), ([], []), place)
                self.assertLessEqual(len(node.bases), 1, place)
                for part in node.body:
                    self.assertIsInstance(part, (ast.FunctionDef, ast.Pass), place)

    def test_imports(self):
        for path, tree in trees():
            for node in ast.walk(tree):
                if isinstance(node, ast.ImportFrom):
                    self.assertIn(node, tree.body, path.name)
                    self.assertEqual(node.level, 0, path.name)
                    self.assertTrue(node.module.startswith("mightever."), path.name)
                    self.assertNotIn("*", [part.name for part in node.names], path.name)


    def test_keywords_at_pythons_own_names(self):
        allowed = {"sorted": ["key", "reverse"], "min": ["key", "default"], "max": ["key", "default"], "sum": ["start"],
                   "enumerate": ["start"], "zip": ["strict"]}
        for place, node in all_nodes():
            if isinstance(node, ast.Call) and isinstance(node.func, ast.Name) and hasattr(builtins, node.func.id):
                for word in node.keywords:
                    self.assertIn(word.arg, allowed.get(node.func.id, []), place)

    def test_sets_are_not_kept(self):
        for path, tree in trees():
            for node in ast.walk(tree):
                for part in ast.iter_child_nodes(node):
                    if isinstance(part, ast.Call) and isinstance(part.func, ast.Name) and part.func.id == "set":
                        spot = isinstance(node, (ast.Compare, ast.BinOp))
                        spot = spot or isinstance(node, ast.Call) and getattr(node.func, "id", "") in ("sorted", "len")
                        self.assertTrue(spot, f"{path.name}:{part.lineno}")


class TestNames(unittest.TestCase):
    def test_names_of_pythons_own(self):
        for place, node in all_nodes():
            if isinstance(node, ast.Name) and hasattr(builtins, node.id):
                self.assertIn(node.id, OWN_NAMES, place)
                self.assertIsInstance(node.ctx, ast.Load, place)
            if isinstance(node, ast.arg):
                self.assertFalse(hasattr(builtins, node.arg), place)

    def test_no_name_begins_with_an_underscore(self):
        for place, node in all_nodes():
            if isinstance(node, (ast.FunctionDef, ast.ClassDef)):
                self.assertTrue(node.name in DOUBLE or not node.name.startswith("_"), place)
            if isinstance(node, ast.Name):
                self.assertFalse(node.id.startswith("_"), place)
            if isinstance(node, ast.arg):
                self.assertFalse(node.arg.startswith("_"), place)
            if isinstance(node, ast.Attribute):
                self.assertTrue(node.attr in DOUBLE or not node.attr.startswith("_"), place)

    def test_methods_that_are_called(self):
        methods, _ = methods_and_values()
        for place, node in all_nodes():
            if isinstance(node, ast.Call) and isinstance(node.func, ast.Attribute):
                self.assertIn(node.func.attr, list(methods) + OWN_METHODS, place)

    def test_no_name_is_a_method_here_and_a_value_there(self):
        methods, values = methods_and_values()
        self.assertEqual(sorted(methods & values), [])
        self.assertEqual(sorted(values & set(VALUES_OUT)), [])

    def test_own_names_are_not_those_of_pythons_own_values(self):
        taken = set()
        for kind in (str, int, list, tuple, dict, set, bytes):
            taken.update(dir(kind))
        methods, values = methods_and_values()
        self.assertEqual(sorted((methods & taken) - set(DOUBLE + OWN_METHODS + ["add", "discard"])), [])
        free = "count index title find get join lower upper split strip copy add".split()
        self.assertEqual(sorted((values & taken) - set(free)), [])

    def test_parameters_and_locals_are_called_like_no_class_or_import(self):
        for path, tree in trees():
            tops = {part.name for part in tree.body if isinstance(part, ast.ClassDef)}
            for part in tree.body:
                if isinstance(part, ast.ImportFrom):
                    tops.update(name.asname or name.name for name in part.names)
            for node in ast.walk(tree):
                if isinstance(node, ast.arg):
                    self.assertNotIn(node.arg, tops, path.name)
                if isinstance(node, ast.Name) and isinstance(node.ctx, ast.Store):
                    self.assertNotIn(node.id, tops, path.name)

    def test_each_name_is_bound_once_at_the_top(self):
        for path, tree in trees():
            names = [part.name for part in tree.body if isinstance(part, (ast.FunctionDef, ast.ClassDef))]
            for part in tree.body:
                if isinstance(part, ast.Assign):
                    names.append(part.targets[0].id)
                if isinstance(part, ast.ImportFrom):
                    names.extend(name.asname or name.name for name in part.names)
            self.assertEqual(len(names), len(set(names)), path.name)


class TestImports(unittest.TestCase):
    def imports(self):
        """Of each file the names that it draws, by the file that it draws them from."""
        drawn = {}
        for path, tree in trees():
            drawn[path.stem] = {}
            for node in tree.body:
                if isinstance(node, ast.ImportFrom):
                    names = drawn[path.stem].setdefault(node.module.split(".")[1], [])
                    names.extend(name.name for name in node.names)
        return drawn

    def test_a_name_is_drawn_from_the_file_that_defines_it(self):
        own = {path.stem: [getattr(part, "name", None) for part in tree.body] for path, tree in trees()}
        for stem, drawn in self.imports().items():
            for source, names in drawn.items():
                for name in names:
                    self.assertIn(name, own[source], stem)

    def test_no_two_files_draw_from_one_another(self):
        drawn = self.imports()

        def reached(stem, seen):
            for source in drawn[stem]:
                if source not in seen:
                    seen.add(source)
                    reached(source, seen)
            return seen

        for stem in drawn:
            self.assertNotIn(stem, reached(stem, set()))

    def test_what_is_drawn_is_used(self):
        for path, tree in trees():
            used = {node.id for node in ast.walk(tree) if isinstance(node, ast.Name)}
            for node in tree.body:
                if isinstance(node, ast.ImportFrom):
                    for name in node.names:
                        self.assertIn(name.asname or name.name, used, path.name)


if __name__ == "__main__":
    unittest.main()
