"""The package keeps to its part of Python: those rules (L1 to L28) that can be read off its files plainly."""

import ast
import builtins
import re
import unittest
from pathlib import Path

PACKAGE = Path(__file__).resolve().parent.parent / "sharedways"
FILES = sorted(path for path in PACKAGE.rglob("*") if path.is_file() and "__pycache__" not in path.parts)
TREES = {path: ast.parse(path.read_text()) for path in FILES}

NODES = set("""Module Load Store ImportFrom alias FunctionDef ClassDef arguments arg Lambda
    Assign AugAssign If While For Return Break Continue Pass Raise Try ExceptHandler Expr
    Constant List Tuple Dict Set JoinedStr FormattedValue
    BinOp Add Sub Mult FloorDiv Mod Pow BitAnd BitOr BitXor LShift RShift UnaryOp USub UAdd Invert Not BoolOp And Or
    Compare Eq NotEq Lt LtE Gt GtE Is IsNot In NotIn IfExp Call keyword Attribute Name Subscript Slice
    ListComp comprehension""".split())

PYTHONS_OWN = set(dir(builtins))

BUILTINS = set("""len range enumerate zip min max sum abs sorted reversed int str bool list tuple dict set frozenset
    isinstance ord repr any all divmod Exception ValueError TypeError KeyError IndexError LookupError ZeroDivisionError
    ArithmeticError OverflowError RuntimeError NotImplementedError AttributeError StopIteration""".split())

METHODS = set("""append clear copy count endswith extend find get index insert isalnum isalpha isdigit islower isspace
    isupper items join keys ljust lower lstrip partition pop remove replace reverse rfind rjust rpartition rsplit rstrip
    setdefault split splitlines startswith strip update upper values zfill bit_length""".split())

BARRED_WORDS = set("""type typing typing_extensions enum Enum IntEnum StrEnum Flag IntFlag Generic Protocol ABC ABCMeta
    namedtuple NamedTuple TypedDict TYPE_CHECKING abstractmethod""".split())

BARRED_NAMES = set("""register mro elements open input version_info with_traceback add_note sys attrgetter breakpoint
    builtins compile copyright credits delattr dir eval exec exit gc getattr globals hasattr help id importlib license
    locals methodcaller os quit setattr super vars format format_map""".split())

KEYWORDS = {"sorted": {"key", "reverse"}, "min": {"key", "default"}, "max": {"key", "default"}, "sum": {"start"},
            "enumerate": {"start"}, "zip": {"strict"}}

# What is walked on the spot, and the calls that walk it: as the first thing, or alone.
WALKED = {"zip", "enumerate", "reversed", "range", "items", "keys", "values"}
WALKERS = {"list", "tuple", "dict", "sorted", "sum", "any", "all", "enumerate", "zip", "min", "max"}


def called(node):
    """The name that a call calls, or None."""
    if not isinstance(node, ast.Call):
        return None
    return getattr(node.func, "id", None) or getattr(node.func, "attr", None)


class FileRules(unittest.TestCase):
    def test_only_plain_python_files_lie_there(self):
        self.assertIn(PACKAGE / "__init__.py", FILES)
        for path in FILES:
            self.assertRegex(path.name, r"^(__init__|__main__|[a-z][a-z0-9_]*)\.py$")
            self.assertNotRegex(path.stem, r"^(test|tests|testing|test_.*|site|conftest)$")
            self.assertNotIn(path.stem, PYTHONS_OWN)

    def test_init_is_empty(self):
        self.assertEqual(ast.parse((PACKAGE / "__init__.py").read_text()).body, [])

    def test_signs_and_sizes(self):
        for path in FILES:
            text = path.read_text(encoding="utf-8")
            self.assertRegex(text, r"\A[ -~\n]*\Z", path.name)
            lines = text.split("\n")
            self.assertLessEqual(len(lines), 401, path.name)
            self.assertLessEqual(max(len(line) for line in lines), 120, path.name)

    def test_barred_words(self):
        for path in FILES:
            text = path.read_text()
            words = set(re.findall(r"\w+", text))
            self.assertEqual(words & BARRED_WORDS, set(), path.name)
            self.assertNotRegex(text, "dataclass|overload|contextmanager")


class TreeRules(unittest.TestCase):
    def nodes(self, *kinds):
        for path in FILES:
            for node in ast.walk(TREES[path]):
                if not kinds or isinstance(node, kinds):
                    yield f"{path.name}:{getattr(node, 'lineno', 0)}", node

    def test_only_the_allowed_forms_stand_there(self):
        for where, node in self.nodes():
            self.assertIn(type(node).__name__, NODES, where)

    def test_constants_are_plain(self):
        for where, node in self.nodes(ast.Constant):
            self.assertIn(type(node.value).__name__, ("int", "str", "bool", "NoneType"), where)

    def test_assignments_have_one_target(self):
        for where, node in self.nodes(ast.Assign):
            self.assertEqual(len(node.targets), 1, where)

    def test_loops_have_no_else_and_tries_no_finally(self):
        for where, node in self.nodes(ast.For, ast.While):
            self.assertEqual(node.orelse, [], where)
        for where, node in self.nodes(ast.Try):
            self.assertEqual(node.finalbody, [], where)

    def test_comprehensions_have_one_for_and_one_if(self):
        for where, node in self.nodes(ast.ListComp):
            self.assertEqual(len(node.generators), 1, where)
            self.assertLessEqual(len(node.generators[0].ifs), 1, where)

    def test_functions_are_short_and_plain(self):
        for where, node in self.nodes(ast.FunctionDef):
            self.assertLessEqual(node.end_lineno - node.lineno + 1, 40, where)
            self.assertEqual(node.decorator_list, [], where)
            given = node.args
            self.assertEqual((given.vararg, given.kwarg), (None, None), where)
            self.assertEqual((given.kwonlyargs, given.posonlyargs), ([], []), where)

    def test_classes_have_one_base_of_the_package_or_an_error(self):
        for where, node in self.nodes(ast.ClassDef):
            self.assertLessEqual(len(node.bases), 1, where)
            self.assertEqual((node.decorator_list, node.keywords), ([], []), where)
            for part in node.body:
                self.assertIsInstance(part, (ast.FunctionDef, ast.Pass), where)

    def test_is_stands_beside_none_true_and_false_alone(self):
        for where, node in self.nodes(ast.Compare):
            if any(isinstance(sign, (ast.Is, ast.IsNot)) for sign in node.ops):
                values = [getattr(side, "value", "") for side in [node.left] + node.comparators]
                self.assertTrue(any(value is None or value is True or value is False for value in values), where)

    def test_names(self):
        for where, node in self.nodes(ast.Name, ast.arg, ast.FunctionDef, ast.ClassDef):
            name = getattr(node, "id", None) or getattr(node, "arg", None) or node.name
            self.assertRegex(name, r"^([A-Za-z]\w*|__(init|eq|repr|str|len)__)$", where)
            self.assertNotIn(name, BARRED_NAMES, where)
            if isinstance(node, ast.Name) and isinstance(node.ctx, ast.Load):
                self.assertTrue(name in BUILTINS or name not in PYTHONS_OWN, f"{where} {name}")
            else:
                self.assertNotIn(name, PYTHONS_OWN, where)

    def test_methods_of_pythons_own(self):
        own = {node.name for where, node in self.nodes(ast.FunctionDef)}
        for where, node in self.nodes(ast.Call):
            if isinstance(node.func, ast.Attribute):
                self.assertIn(node.func.attr, METHODS | own, where)

    def test_methods_of_pythons_own_are_called_where_they_stand(self):
        calls = [node.func for where, node in self.nodes(ast.Call)]
        for where, node in self.nodes(ast.Attribute):
            self.assertNotIn(node.attr, BARRED_NAMES, where)
            self.assertTrue(node in calls or node.attr not in METHODS, where)

    def test_names_of_pythons_own_are_called_and_not_kept(self):
        calls = [node.func for where, node in self.nodes(ast.Call)]
        kinds = [kind for where, node in self.nodes(ast.Call) if called(node) == "isinstance"
                 for kind in ast.walk(node.args[1])]
        bases = [base for where, node in self.nodes(ast.ClassDef) for base in node.bases]
        for where, node in self.nodes(ast.Name):
            if node.id in PYTHONS_OWN:
                self.assertTrue(node in calls + kinds + bases, f"{where} {node.id}")

    def test_statements_that_stand_alone_are_calls(self):
        docstrings = [tree.body[0] for tree in TREES.values() if tree.body]
        for where, node in self.nodes(ast.Expr):
            self.assertTrue(isinstance(node.value, ast.Call) or node in docstrings, where)

    def test_keywords(self):
        for where, node in self.nodes(ast.Call):
            given = {keyword.arg for keyword in node.keywords}
            self.assertLessEqual(given, KEYWORDS.get(called(node), set()), where)

    def test_walked_at_once(self):
        walked = [node.iter for where, node in self.nodes(ast.For, ast.comprehension)]
        walked += [node.args[0] for where, node in self.nodes(ast.Call) if called(node) in WALKERS and node.args]
        for where, node in self.nodes(ast.Call):
            if called(node) in WALKED:
                self.assertIn(node, walked, where)

    def test_what_a_loop_walks_is_not_changed_in_it(self):
        for where, loop in self.nodes(ast.For):
            names = {node.id for node in ast.walk(loop.iter) if isinstance(node, ast.Name)}
            for node in [inner for row in loop.body for inner in ast.walk(row)]:
                if isinstance(node, (ast.Attribute, ast.Subscript)) and isinstance(node.ctx, ast.Store):
                    self.assertNotIn(getattr(node.value, "id", None), names, where)
                if isinstance(node, ast.Call) and isinstance(node.func, ast.Attribute):
                    self.assertNotIn(getattr(node.func.value, "id", None), names, where)

    def test_no_sets_and_no_powers(self):
        for where, node in self.nodes(ast.Set, ast.Pow):
            self.fail(where)
        for where, node in self.nodes(ast.Call):
            self.assertNotIn(called(node), ("set", "frozenset", "chr"), where)

    def test_the_top_of_a_file(self):
        for path in FILES:
            for number, node in enumerate(TREES[path].body):
                docstring = number == 0 and isinstance(node, ast.Expr) and isinstance(node.value, ast.Constant)
                fits = isinstance(node, (ast.ImportFrom, ast.FunctionDef, ast.ClassDef, ast.Assign))
                self.assertTrue(docstring or fits, f"{path.name}:{node.lineno}")
                if isinstance(node, ast.Assign):
                    # Whole numbers and tuples of them: nothing there can be changed.
                    ast.literal_eval(node.value)
                    self.assertIsInstance(node.value, (ast.Constant, ast.Tuple), f"{path.name}:{node.lineno}")

    def test_methods_with_two_underscores(self):
        for where, node in self.nodes(ast.FunctionDef):
            if node.name.startswith("__"):
                self.assertEqual(node.name, "__init__", where)
                self.assertFalse([inner for inner in ast.walk(node) if isinstance(inner, ast.Return)], where)

    def test_no_name_is_a_method_and_a_value(self):
        methods = {part.name for where, node in self.nodes(ast.ClassDef) for part in node.body
                   if isinstance(part, ast.FunctionDef)}
        stored = {node.attr for where, node in self.nodes(ast.Attribute) if isinstance(node.ctx, ast.Store)}
        pythons = {name for kind in (str, int, list, dict, set, bytes, tuple) for name in vars(kind)}
        self.assertEqual(methods & stored, set())
        self.assertEqual((methods | stored) & pythons - {"__init__"}, set())

    def test_texts_hold_no_per_cent(self):
        for where, node in self.nodes(ast.Constant):
            self.assertNotIn("%", str(node.value), where)


class ImportRules(unittest.TestCase):
    def drawn(self, path):
        """The rows that import, each as the file's stem and the names."""
        tree = TREES[path]
        rows = [node for node in ast.walk(tree) if isinstance(node, (ast.ImportFrom, ast.Import))]
        for row in rows:
            self.assertIn(row, tree.body, path.name)
        for row in rows:
            self.assertRegex(f"{row.level} {row.module}", r"^0 sharedways\.[a-z0-9_]+$", path.name)
            yield row.module.split(".")[1], [alias.name for alias in row.names]

    def bound(self, path):
        names = []
        for node in TREES[path].body:
            if isinstance(node, (ast.FunctionDef, ast.ClassDef)):
                names.append(node.name)
            if isinstance(node, ast.Assign):
                names.append(node.targets[0].id)
        return names

    def test_names_come_from_the_file_that_defines_them(self):
        for path in FILES:
            for stem, names in self.drawn(path):
                self.assertLessEqual(set(names), set(self.bound(PACKAGE / f"{stem}.py")), path.name)

    def test_each_name_is_bound_once(self):
        for path in FILES:
            names = self.bound(path) + [name for stem, some in self.drawn(path) for name in some]
            self.assertEqual(len(names), len(set(names)), path.name)

    def test_no_local_is_called_like_an_import(self):
        for path in FILES:
            names = {name for stem, some in self.drawn(path) for name in some}
            for node in ast.walk(TREES[path]):
                if isinstance(node, ast.arg):
                    self.assertNotIn(node.arg, names, path.name)
                if isinstance(node, ast.Name) and isinstance(node.ctx, ast.Store):
                    self.assertNotIn(node.id, names, path.name)

    def test_no_two_files_draw_from_one_another(self):
        left = {path.stem: {stem for stem, names in self.drawn(path)} for path in FILES}
        while left:
            free = [stem for stem in left if not left[stem] & set(left)]
            self.assertTrue(free, left)
            for stem in free:
                del left[stem]


if __name__ == "__main__":
    unittest.main()
