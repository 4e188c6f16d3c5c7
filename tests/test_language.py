"""The package keeps to the rules of LANGUAGE.md that a look at its files can tell."""

import ast
import builtins
import io
import pathlib
import re
import tokenize
import unittest

PACKAGE = pathlib.Path(__file__).resolve().parent.parent / "fractionroads"
BUILTINS = set("""len range enumerate zip min max sum abs sorted reversed int str bool bytes list tuple dict set
    frozenset isinstance ord repr any all divmod super property staticmethod classmethod Exception ValueError
    TypeError KeyError IndexError LookupError ZeroDivisionError ArithmeticError OverflowError RuntimeError
    NotImplementedError AttributeError StopIteration""".split())
METHODS = set("""append clear copy count endswith extend find get index insert isalnum isalpha isdigit islower
    isspace isupper items join keys ljust lower lstrip partition pop remove replace reverse rfind rjust rpartition
    rsplit rstrip setdefault split splitlines startswith strip update upper values zfill bit_length title
    capitalize swapcase casefold center expandtabs removeprefix removesuffix rindex isascii isdecimal isnumeric
    istitle isidentifier isprintable translate sort add discard""".split())
CHANGING = ("append", "clear", "extend", "insert", "pop", "remove", "reverse", "setdefault", "update", "sort")
DOUBLE = {"__init__", "__eq__", "__repr__", "__str__", "__len__", "__enter__", "__exit__"}
UNUSED_NAMES = set("""attrgetter breakpoint builtins compile copyright credits delattr dir eval exec exit gc getattr
    globals hasattr help id importlib license locals methodcaller os quit setattr vars sys register mro elements
    open input version_info with_traceback add_note""".split())
UNUSED_WORDS = re.compile(
    r"\b(type|typing|typing_extensions|enum|Enum|IntEnum|StrEnum|Flag|IntFlag|Generic|Protocol|ABC|ABCMeta"
    r"|namedtuple|NamedTuple|TypedDict|TYPE_CHECKING|abstractmethod)\b|dataclass|overload|contextmanager")
BARRED = (ast.Global, ast.AsyncFunctionDef, ast.AsyncFor, ast.AsyncWith, ast.Await, ast.NamedExpr, ast.Div,
          ast.Import, ast.MatMult)
ITERATORS = ("list", "tuple", "dict", "sorted", "sum", "any", "all", "enumerate", "zip", "min", "max")
MODULE_LEVEL = (ast.ImportFrom, ast.FunctionDef, ast.ClassDef, ast.Assign, ast.AnnAssign)


def sources():
    return [(path.name, path.read_text(encoding="utf-8")) for path in sorted(PACKAGE.glob("*.py"))]


def nodes():
    return [(name, node) for name, text in sources() for node in ast.walk(ast.parse(text))]


def bound_names(node):
    """The names that a node binds."""
    if isinstance(node, (ast.FunctionDef, ast.ClassDef)):
        return [node.name]
    if isinstance(node, ast.arg):
        return [node.arg]
    if isinstance(node, ast.Name) and not isinstance(node.ctx, ast.Load):
        return [node.id]
    if isinstance(node, ast.ImportFrom):
        return [each.asname or each.name for each in node.names]
    if isinstance(node, ast.ExceptHandler) and node.name:
        return [node.name]
    return []


def changed_names(node):
    """The names of what a node changes: items, by methods, by += and the like."""
    if isinstance(node, ast.Subscript) and not isinstance(node.ctx, ast.Load) and isinstance(node.value, ast.Name):
        return {node.value.id}
    if isinstance(node, ast.AugAssign) and isinstance(node.target, ast.Name):
        return {node.target.id}
    if isinstance(node, ast.Call) and isinstance(node.func, ast.Attribute) and node.func.attr in CHANGING:
        return {node.func.value.id} if isinstance(node.func.value, ast.Name) else set()
    return set()


def is_docstring(node):
    return isinstance(node, ast.Expr) and isinstance(node.value, ast.Constant) and isinstance(node.value.value, str)


def is_iterated_at_once(node):
    """Whether a node is a call of what L23 lets stand only where it is iterated."""
    if not isinstance(node, ast.Call):
        return False
    if isinstance(node.func, ast.Name):
        return node.func.id in ("zip", "enumerate", "reversed", "range")
    return isinstance(node.func, ast.Attribute) and node.func.attr in ("items", "keys", "values")


def iterates(node, inner):
    """Whether a node iterates what stands in it."""
    if isinstance(node, (ast.For, ast.comprehension)):
        return node.iter == inner
    if isinstance(node, ast.Call) and isinstance(node.func, ast.Name):
        return node.args[0] == inner and node.func.id in ITERATORS
    return isinstance(node, ast.Compare) and isinstance(node.ops[0], (ast.In, ast.NotIn))


class TestFiles(unittest.TestCase):
    def test_the_folder_holds_py_files_of_plain_names_alone(self):
        self.assertTrue((PACKAGE / "__init__.py").is_file())
        for path in PACKAGE.iterdir():
            if path.name != "__pycache__":
                self.assertRegex(path.name, r"^([a-z][a-z0-9_]*|__init__)\.py$")

    def test_sizes_and_characters(self):
        for name, text in sources():
            with self.subTest(name):
                self.assertTrue(text.endswith("\n"))
                self.assertRegex(text, r"\A[ -~\n]*\Z")
                self.assertLessEqual(len(text.splitlines()), 400)
                self.assertLessEqual(max([len(line) for line in text.splitlines()]), 120)
                self.assertIsNone(UNUSED_WORDS.search(text))

    def test_strings(self):
        for name, text in sources():
            for token in tokenize.generate_tokens(io.StringIO(text).readline):
                if token.type == tokenize.STRING:
                    self.assertNotIn("%", token.string, f"{name}:{token.start[0]}")
                    self.assertIsNone(re.search(r"\\[^nt\\'\"]", token.string), f"{name}:{token.start[0]}")


class TestCode(unittest.TestCase):
    def test_statements_and_values(self):
        for name, node in nodes():
            where = f"{name}:{getattr(node, 'lineno', 0)}"
            self.assertNotIsInstance(node, BARRED, where)
            if isinstance(node, ast.Constant):
                self.assertNotIsInstance(node.value, (float, complex), where)
            if isinstance(node, ast.FunctionDef):
                self.assertLessEqual(node.end_lineno - node.lineno + 1, 40, where)

    def test_module_level(self):
        for name, text in sources():
            body = ast.parse(text).body
            bound = [each for node in body for each in bound_names(node)]
            for node in body:
                self.assertTrue(isinstance(node, MODULE_LEVEL) or is_docstring(node), f"{name}:{node.lineno}")
                if isinstance(node, ast.Assign):
                    bound += [target.id for target in node.targets]
            self.assertEqual(len(bound), len(set(bound)), name)

    def test_imports_name_the_file_that_defines(self):
        for name, node in nodes():
            if isinstance(node, ast.ImportFrom) and node.module != "__future__":
                self.assertEqual(node.level, 0, name)
                self.assertRegex(node.module, r"^fractionroads\.[a-z][a-z0-9_]*$")
                body = ast.parse((PACKAGE / (node.module.split(".")[1] + ".py")).read_text()).body
                defined = [each for part in body if not isinstance(part, ast.ImportFrom)
                           for inner in [part, *getattr(part, "targets", [])] for each in bound_names(inner)]
                for each in node.names:
                    self.assertIn(each.name, defined, name)

    def test_names(self):
        for name, node in nodes():
            for bound in bound_names(node):
                if bound not in DOUBLE:
                    self.assertRegex(bound, r"^[A-Za-z][A-Za-z0-9_]*$", name)
                    self.assertNotIn(bound, UNUSED_NAMES, name)
            if isinstance(node, ast.Name) and hasattr(builtins, node.id):
                self.assertIn(node.id, BUILTINS, name)

    def test_inner_names_are_no_classes_imports_or_builtins(self):
        for name, text in sources():
            body = ast.parse(text).body
            taken = [each for node in body if isinstance(node, (ast.ClassDef, ast.ImportFrom))
                     for each in bound_names(node)]
            functions = [node for node in ast.walk(ast.parse(text)) if isinstance(node, ast.FunctionDef)]
            for node in [inner for function in functions for inner in ast.walk(function) if inner != function]:
                for bound in bound_names(node):
                    self.assertNotIn(bound, taken, name)
                    self.assertFalse(hasattr(builtins, bound), f"{name}: {bound}")

    def test_methods(self):
        own = {inner.name for name, node in nodes() if isinstance(node, ast.ClassDef)
               for inner in node.body if isinstance(inner, ast.FunctionDef)}
        for name, node in nodes():
            if isinstance(node, ast.Call) and isinstance(node.func, ast.Attribute):
                self.assertIn(node.func.attr, METHODS | own, f"{name}:{node.lineno}")

    def test_is_only_with_none_and_truths(self):
        for name, node in nodes():
            if isinstance(node, ast.Compare) and any(isinstance(op, (ast.Is, ast.IsNot)) for op in node.ops):
                self.assertIsInstance(node.comparators[0], ast.Constant, f"{name}:{node.lineno}")
                self.assertIn(node.comparators[0].value, (None, True, False), f"{name}:{node.lineno}")

    def test_no_name_is_a_method_and_an_attribute(self):
        methods = {inner.name for name, node in nodes() if isinstance(node, ast.ClassDef)
                   for inner in node.body if isinstance(inner, ast.FunctionDef)}
        attributes = [(name, node) for name, node in nodes() if isinstance(node, ast.Attribute)]
        stored = {node.attr for name, node in attributes if isinstance(node.ctx, ast.Store)}
        self.assertEqual(methods & stored, set())
        for name, node in attributes:
            self.assertIn(node.attr, METHODS | methods | stored, f"{name}:{node.lineno}")

    def test_what_is_iterated_at_once_is_not_stored(self):
        for name, node in nodes():
            for inner in ast.iter_child_nodes(node):
                if is_iterated_at_once(inner):
                    self.assertTrue(iterates(node, inner), f"{name}:{inner.lineno}")

    def test_sets_stand_in_plain_assignments_or_tests(self):
        for name, node in nodes():
            self.assertNotIsInstance(node, (ast.SetComp, ast.Set))
            for inner in ast.iter_child_nodes(node):
                if isinstance(inner, ast.Call) and isinstance(inner.func, ast.Name) and inner.func.id == "set":
                    self.assertIsInstance(node, (ast.Assign, ast.Compare), f"{name}:{inner.lineno}")

    def test_what_a_loop_iterates_over_stays(self):
        for name, loop in nodes():
            if isinstance(loop, ast.For):
                iterated = {node.id for node in ast.walk(loop.iter) if isinstance(node, ast.Name)}
                for node in [inner for part in loop.body for inner in ast.walk(part)]:
                    self.assertFalse(iterated & changed_names(node), f"{name}:{loop.lineno}")

    def test_dicts_and_lists_at_module_level_hold_no_others(self):
        for name, text in sources():
            for node in [part.value for part in ast.parse(text).body if isinstance(part, ast.Assign)]:
                inner = [each for each in ast.walk(node) if isinstance(each, (ast.Dict, ast.List, ast.Set))]
                self.assertIn(inner, ([], [node]), name)

    def test_no_two_files_import_from_each_other(self):
        needs = {name[:-3]: set() for name, text in sources()}
        for name, node in nodes():
            if isinstance(node, ast.ImportFrom) and node.module != "__future__":
                needs[name[:-3]].add(node.module.split(".")[1])
        while needs:
            free = [name for name in needs if not needs[name] & set(needs)]
            self.assertTrue(free, f"a ring of imports among {sorted(needs)}")
            needs = {name: needs[name] for name in needs if name not in free}


if __name__ == "__main__":
    unittest.main()
