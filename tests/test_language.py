"""The part of Python that the package keeps to: the rules of LANGUAGE.md that a walk over its files can see."""

import ast
import builtins
import pathlib
import re
import unittest

PACKAGE = pathlib.Path(__file__).resolve().parent.parent / "heapstill"

STATEMENTS = (ast.Assign, ast.AugAssign, ast.If, ast.While, ast.For, ast.Return, ast.Break, ast.Continue, ast.Pass,
              ast.Raise, ast.Try, ast.Expr, ast.FunctionDef, ast.ClassDef, ast.ImportFrom)
EXPRESSIONS = (ast.BoolOp, ast.BinOp, ast.UnaryOp, ast.Lambda, ast.IfExp, ast.Dict, ast.Set, ast.ListComp,
               ast.Compare, ast.Call, ast.FormattedValue, ast.JoinedStr, ast.Constant, ast.Attribute, ast.Subscript,
               ast.Name, ast.List, ast.Tuple, ast.Slice)
BUILTINS = """len range enumerate zip min max sum abs sorted reversed int str bool list tuple dict set frozenset
    isinstance ord repr any all divmod Exception ValueError TypeError KeyError IndexError LookupError
    ZeroDivisionError ArithmeticError OverflowError RuntimeError NotImplementedError AttributeError
    StopIteration""".split()
METHODS = """append clear copy count endswith extend find get index insert isalnum isalpha isdigit islower isspace
    isupper items join keys ljust lower lstrip partition pop remove replace reverse rfind rjust rpartition rsplit
    rstrip setdefault split splitlines startswith strip update upper values zfill bit_length""".split()
WORDS = """type typing typing_extensions enum Enum IntEnum StrEnum Flag IntFlag Generic Protocol ABC ABCMeta
    namedtuple NamedTuple TypedDict TYPE_CHECKING abstractmethod register mro elements open input eval exec
    getattr setattr globals locals""".split()
WALKS = ["zip", "enumerate", "reversed", "range", "items", "keys", "values"]
WALKERS = ["list", "tuple", "dict", "sorted", "sum", "any", "all", "enumerate", "zip", "min", "max"]
DUNDERS = ["__init__", "__eq__", "__repr__", "__str__", "__len__"]


def package_files():
    return sorted(path for path in PACKAGE.rglob("*") if "__pycache__" not in path.parts)


def trees():
    return [(path, ast.parse(path.read_text("utf-8"))) for path in package_files()]


def nodes(*kinds):
    return [(path, node) for path, tree in trees() for node in ast.walk(tree) if isinstance(node, kinds)]


def imported(tree):
    return [node.module for node in tree.body if isinstance(node, ast.ImportFrom)]


class Files(unittest.TestCase):
    def test_the_folder_holds_plain_python_files_alone(self):
        self.assertIn(PACKAGE / "__init__.py", package_files())
        for path in package_files():
            self.assertRegex(path.name, r"^(__init__|__main__|[a-z][a-z0-9_]*)\.py$")
            self.assertFalse(path.stem in dir(builtins), path)
            self.assertFalse(path.stem.startswith(("test", "site", "conftest")), path)

    def test_signs_and_sizes(self):
        for path in package_files():
            text = path.read_text("utf-8")
            self.assertRegex(text, r"\A[ -~\n]*\Z", path)
            lines = text.splitlines()
            self.assertLessEqual(len(lines), 400, path)
            self.assertLessEqual(max([len(line) for line in lines]), 120, path)
        for path, node in nodes(ast.FunctionDef):
            self.assertLessEqual(node.end_lineno - node.lineno + 1, 40, (path, node.name))

    def test_words_that_stand_nowhere(self):
        for path in package_files():
            found = set(re.findall(r"\w+", path.read_text("utf-8")))
            self.assertEqual(found & set(WORDS), set(), path)


class Modules(unittest.TestCase):
    def test_imports_are_of_the_package_by_full_names(self):
        for path, node in nodes(ast.Import, ast.ImportFrom):
            self.assertIsInstance(node, ast.ImportFrom, path)
            self.assertEqual(node.level, 0, path)
            self.assertTrue(node.module.startswith("heapstill."), path)
            self.assertNotIn("*", [name.name for name in node.names], path)

    def test_names_are_drawn_from_the_file_that_defines_them(self):
        defined = {}
        for path, tree in trees():
            own = [node.name for node in tree.body if isinstance(node, (ast.FunctionDef, ast.ClassDef))]
            own += [target.id for node in tree.body if isinstance(node, ast.Assign) for target in node.targets]
            defined["heapstill." + path.stem] = own
            self.assertEqual(len(own), len(set(own)), path)
        for path, node in nodes(ast.ImportFrom):
            for name in node.names:
                self.assertIn(name.name, defined[node.module], path)

    def test_no_files_draw_from_one_another(self):
        draws = {"heapstill." + path.stem: imported(tree) for path, tree in trees()}
        while draws:
            free = [name for name in draws if not set(draws[name]) & set(draws)]
            self.assertTrue(free, draws)
            draws = {name: draws[name] for name in draws if name not in free}

    def test_the_top_of_a_module(self):
        for path, tree in trees():
            self.assertTrue(ast.get_docstring(tree), path)
            for node in tree.body[1:]:
                self.assertIsInstance(node, (ast.ImportFrom, ast.FunctionDef, ast.ClassDef, ast.Assign), path)

    def test_lists_and_dicts_of_a_files_top_are_only_read(self):
        for path, tree in trees():
            kept = {}
            for node in tree.body:
                if isinstance(node, ast.Assign):
                    kept[node.targets[0].id] = node.value
                    for part in list(ast.walk(node.value))[1:]:
                        self.assertNotIsInstance(part, (ast.List, ast.Dict, ast.ListComp, ast.Call), path)
            names = [name for name in kept if isinstance(kept[name], (ast.List, ast.Dict))]
            read = [node.value for node in ast.walk(tree)
                    if isinstance(node, ast.Subscript) and isinstance(node.ctx, ast.Load)]
            read += [side for node in ast.walk(tree) if isinstance(node, ast.Compare) for side in node.comparators]
            for node in ast.walk(tree):
                if isinstance(node, ast.Name) and node.id in names and isinstance(node.ctx, ast.Load):
                    self.assertIn(node, read, (path, node.lineno))


class Code(unittest.TestCase):
    def test_statements(self):
        for path, node in nodes(ast.stmt):
            self.assertIsInstance(node, STATEMENTS, (path, node.lineno))
        for path, node in nodes(ast.Assign):
            self.assertEqual(len(node.targets), 1, (path, node.lineno))
        for path, node in nodes(ast.For, ast.While):
            self.assertEqual(node.orelse, [], (path, node.lineno))
        for path, node in nodes(ast.Try):
            self.assertEqual(node.finalbody, [], (path, node.lineno))

    def test_expressions(self):
        for path, node in nodes(ast.expr):
            self.assertIsInstance(node, EXPRESSIONS, (path, node.lineno))
        for path, node in nodes(ast.Constant):
            self.assertIn(type(node.value), (int, str, bool, type(None)), (path, node.lineno))
        for path, node in nodes(ast.Div, ast.MatMult):
            self.fail((path, node))
        for path, node in nodes(ast.ListComp):
            self.assertEqual(len(node.generators), 1, (path, node.lineno))
            self.assertLessEqual(len(node.generators[0].ifs), 1, (path, node.lineno))
        for path, node in nodes(ast.Compare):
            if any(isinstance(op, (ast.Is, ast.IsNot)) for op in node.ops):
                self.assertTrue(all(isinstance(side, ast.Constant) for side in node.comparators), (path, node.lineno))

    def test_texts(self):
        for path, node in nodes(ast.FormattedValue):
            self.assertIsInstance(node.value, ast.Name, (path, node.lineno))
            self.assertIsNone(node.format_spec, (path, node.lineno))
        for path, node in nodes(ast.Constant):
            self.assertNotIn("%", str(node.value), (path, node.lineno))

    def test_functions_and_classes(self):
        for path, node in nodes(ast.FunctionDef, ast.ClassDef):
            self.assertEqual(node.decorator_list, [], (path, node.name))
        for path, node in nodes(ast.arguments):
            self.assertEqual((node.vararg, node.kwarg, node.kwonlyargs, node.posonlyargs), (None, None, [], []), path)
        for path, node in nodes(ast.ClassDef):
            self.assertLessEqual(len(node.bases), 1, (path, node.name))
            for part in node.body:
                self.assertIsInstance(part, (ast.FunctionDef, ast.Pass), (path, node.name))

    def test_names(self):
        for path, node in nodes(ast.Name):
            self.assertRegex(node.id, r"^[A-Za-z][A-Za-z0-9_]*$", path)
            if node.id in dir(builtins):
                self.assertIn(node.id, BUILTINS, (path, node.lineno))
                self.assertIsInstance(node.ctx, ast.Load, (path, node.lineno))
        for path, node in nodes(ast.arg):
            self.assertFalse(node.arg in dir(builtins) or node.arg.startswith("_"), (path, node.arg))
        for path, node in nodes(ast.FunctionDef):
            self.assertTrue(node.name in DUNDERS or not node.name.startswith("_"), (path, node.name))

    def test_no_local_is_called_like_a_name_of_its_file(self):
        for path, tree in trees():
            top = [node.name for node in tree.body if isinstance(node, (ast.FunctionDef, ast.ClassDef))]
            top += [name.name for node in tree.body if isinstance(node, ast.ImportFrom) for name in node.names]
            for node in ast.walk(tree):
                if isinstance(node, ast.Name) and isinstance(node.ctx, ast.Store):
                    self.assertNotIn(node.id, top, (path, node.lineno))
                if isinstance(node, ast.arg):
                    self.assertNotIn(node.arg, top, (path, node.lineno))

    def test_methods(self):
        own = [node.name for path, node in nodes(ast.FunctionDef)]
        for path, node in nodes(ast.Call):
            if isinstance(node.func, ast.Attribute):
                self.assertIn(node.func.attr, METHODS + own, (path, node.lineno))

    def test_walked_at_once(self):
        for path, tree in trees():
            walked = [node.iter for node in ast.walk(tree) if isinstance(node, (ast.For, ast.comprehension))]
            for node in ast.walk(tree):
                if isinstance(node, ast.Call) and isinstance(node.func, ast.Name) and node.func.id in WALKERS:
                    walked += node.args if node.func.id == "zip" else node.args[:1]
            for node in ast.walk(tree):
                if isinstance(node, ast.Call):
                    name = node.func.id if isinstance(node.func, ast.Name) else node.func.attr
                    self.assertTrue(name not in WALKS or node in walked, (path, node.lineno))

    def test_powers_have_a_written_exponent(self):
        for path, node in nodes(ast.BinOp):
            if isinstance(node.op, ast.Pow):
                self.assertIsInstance(node.right, ast.Constant, (path, node.lineno))
                self.assertLessEqual(node.right.value, 64, (path, node.lineno))

    def test_no_value_is_called_like_a_method(self):
        methods = [node.name for path, part in nodes(ast.ClassDef) for node in part.body
                   if isinstance(node, ast.FunctionDef)]
        for path, node in nodes(ast.Attribute):
            if isinstance(node.ctx, ast.Store):
                self.assertNotIn(node.attr, methods + METHODS, (path, node.lineno))

    def test_no_sets_are_kept(self):
        for path, node in nodes(ast.Set):
            self.fail((path, node.lineno))
        for path, node in nodes(ast.Name):
            self.assertNotIn(node.id, ["set", "frozenset", "chr"], (path, node.lineno))
