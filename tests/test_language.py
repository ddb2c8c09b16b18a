"""The rules of the language subset that can be seen in a file without running it."""

import ast
import builtins
import io
import pathlib
import re
import tokenize
import unittest
import warnings

PACKAGE = pathlib.Path(__file__).resolve().parent.parent / "listmarks"
FILES = sorted(PACKAGE.rglob("*.py"))

BUILTINS = set(
    "len range enumerate zip min max sum abs sorted reversed int str bool bytes list tuple dict set frozenset "
    "isinstance ord repr any all divmod Exception ValueError TypeError KeyError IndexError LookupError "
    "ZeroDivisionError ArithmeticError OverflowError RuntimeError NotImplementedError AttributeError".split()
)
METHODS = set(
    "append clear copy count endswith extend find get index insert isalnum isalpha isdigit islower isspace isupper "
    "items join keys ljust lower lstrip partition pop remove replace reverse rfind rjust rpartition rsplit rstrip "
    "setdefault split splitlines startswith strip update upper values zfill bit_length add discard sort".split()
)
BARRED_WORDS = set(
    "type typing typing_extensions enum Enum IntEnum StrEnum Flag IntFlag Generic Protocol ABC ABCMeta namedtuple "
    "NamedTuple TypedDict TYPE_CHECKING abstractmethod".split()
)
BARRED_NAMES = set(
    "register mro elements open input version_info with_traceback add_note attrgetter breakpoint builtins compile "
    "copyright credits delattr dir eval exec exit gc getattr globals hasattr help id importlib license locals "
    "methodcaller os quit setattr super type vars sys".split()
)
BARRED_NODES = (
    ast.Global, ast.AsyncFunctionDef, ast.AsyncFor, ast.AsyncWith, ast.Await, ast.Import, ast.Div, ast.MatMult,
)
DOUBLE = {"__init__", "__eq__", "__repr__", "__str__", "__len__"}


def bound_names(tree):
    """All names that a file binds, with their nodes."""
    for node in ast.walk(tree):
        if isinstance(node, (ast.FunctionDef, ast.ClassDef)):
            yield node.name, node
        elif isinstance(node, ast.arg):
            yield node.arg, node
        elif isinstance(node, ast.Name) and isinstance(node.ctx, ast.Store):
            yield node.id, node
        elif isinstance(node, ast.alias):
            yield node.asname or node.name, node


def defined_names(tree):
    """The names that a file itself defines at module level."""
    for node in tree.body:
        if isinstance(node, (ast.FunctionDef, ast.ClassDef)):
            yield node.name
        elif isinstance(node, ast.Assign):
            yield node.targets[0].id


def methods(tree):
    """All methods of a file, with their classes."""
    for node in tree.body:
        if isinstance(node, ast.ClassDef):
            for part in node.body:
                if isinstance(part, ast.FunctionDef):
                    yield node, part


def trees():
    """The trees of all files, by their names."""
    return {path.stem: ast.parse(path.read_text(encoding="utf-8")) for path in FILES}


class Language(unittest.TestCase):
    def over_files(self, check):
        """Check each file, by its text and its tree."""
        self.assertTrue(FILES)
        for path in FILES:
            text = path.read_text(encoding="utf-8")
            with self.subTest(path.name):
                check(text, ast.parse(text))

    def test_files(self):
        self.assertTrue((PACKAGE / "__init__.py").is_file())
        for path in PACKAGE.rglob("*"):
            if "__pycache__" not in path.parts:
                self.assertRegex(path.name, r"^[a-z0-9_]+\.py$")

    def test_signs_and_sizes(self):
        def check(text, tree):
            self.assertRegex(text, r"^[ -~\n]*\Z")
            self.assertNotIn("%", text)
            self.assertLessEqual(text.count("\n"), 400)
            self.assertLessEqual(max([len(line) for line in text.split("\n")]), 120)
            for node in ast.walk(tree):
                if isinstance(node, ast.FunctionDef):
                    self.assertLessEqual(node.end_lineno - node.lineno + 1, 40)

        self.over_files(check)

    def test_no_warning(self):
        def check(text, tree):
            with warnings.catch_warnings():
                warnings.simplefilter("error")
                compile(text, "file", "exec")

        self.over_files(check)

    def test_barred_words(self):
        def check(text, tree):
            self.assertFalse(set(re.findall(r"\w+", text)) & BARRED_WORDS)
            self.assertNotRegex(text, "dataclass|overload|contextmanager")

        self.over_files(check)

    def test_escapes(self):
        def check(text, tree):
            for token in tokenize.generate_tokens(io.StringIO(text).readline):
                if token.type == tokenize.STRING:
                    self.assertNotRegex(token.string, r"\\[^nt\\'\"]")

        self.over_files(check)

    def test_module_level(self):
        def check(text, tree):
            self.assertTrue(ast.get_docstring(tree))
            names = []
            for node in tree.body[1:]:
                self.assertIsInstance(node, (ast.ImportFrom, ast.FunctionDef, ast.ClassDef, ast.Assign))
                if isinstance(node, ast.Assign):
                    names.append(node.targets[0].id)
                    ast.literal_eval(node.value)
                elif isinstance(node, ast.ImportFrom):
                    names.extend([alias.name for alias in node.names])
                else:
                    names.append(node.name)
            self.assertEqual(len(set(names)), len(names))

        self.over_files(check)

    def test_imports(self):
        def check(text, tree):
            for node in ast.walk(tree):
                if isinstance(node, ast.ImportFrom):
                    self.assertIn(node, tree.body)
                    self.assertEqual(node.level, 0)
                    folder, file = node.module.split(".")
                    self.assertEqual(folder, "listmarks")
                    made = list(defined_names(ast.parse((PACKAGE / f"{file}.py").read_text(encoding="utf-8"))))
                    for alias in node.names:
                        self.assertIsNone(alias.asname)
                        self.assertIn(alias.name, made)

        self.over_files(check)

    def test_names(self):
        def check(text, tree):
            taken = {alias.name for node in tree.body if isinstance(node, ast.ImportFrom) for alias in node.names}
            taken |= {node.name for node in tree.body if isinstance(node, ast.ClassDef)}
            for name, node in bound_names(tree):
                if name not in DOUBLE:
                    self.assertRegex(name, r"^[A-Za-z][A-Za-z0-9_]*$")
                self.assertNotIn(name, BARRED_NAMES)
                self.assertNotIn(name, dir(builtins))
                if isinstance(node, (ast.Name, ast.arg)):
                    self.assertNotIn(name, taken)

        self.over_files(check)

    def test_only_allowed_builtins_and_methods(self):
        def check(text, tree):
            known = BUILTINS | {name for name, _ in bound_names(tree)}
            own = {method.name for _, method in methods(tree)}
            for node in ast.walk(tree):
                self.assertNotIsInstance(node, BARRED_NODES)
                if isinstance(node, ast.Name) and isinstance(node.ctx, ast.Load):
                    self.assertIn(node.id, known)
                if isinstance(node, ast.Call) and isinstance(node.func, ast.Attribute):
                    self.assertIn(node.func.attr, METHODS | own)
                if isinstance(node, ast.Constant):
                    self.assertNotIsInstance(node.value, (float, complex))

        self.over_files(check)

    def test_methods_of_the_interface_stand_in_their_classes(self):
        found = {}
        for tree in trees().values():
            for made, method in methods(tree):
                found.setdefault(made.name, []).append(method.name)
        for name in ("Found", "Twice", "Nobody", "Read", "Broken"):
            self.assertEqual(found[name], ["__init__", "shows"])
        listed = {"__init__", "listed", "marks", "put", "take", "move", "shift", "begin", "point"}
        self.assertLessEqual(listed, set(found["Desk"]))

    def test_no_method_is_called_like_an_attribute(self):
        names = set()
        stored = set()
        read = set()
        for tree in trees().values():
            names |= {method.name for _, method in methods(tree)}
            called = [node.func for node in ast.walk(tree) if isinstance(node, ast.Call)]
            for node in ast.walk(tree):
                if isinstance(node, ast.Attribute) and node not in called:
                    (stored if isinstance(node.ctx, ast.Store) else read).add(node.attr)
        self.assertFalse(names & stored)
        self.assertLessEqual(read, stored)
        for name in (names | stored) - DOUBLE:
            for value in ("", 0, [], {}, set(), b"", ()):
                self.assertFalse(hasattr(value, name), name)

    def test_no_two_files_import_from_each_other(self):
        needed = {
            name: {node.module.split(".")[1] for node in tree.body if isinstance(node, ast.ImportFrom)}
            for name, tree in trees().items()
        }
        while needed:
            free = [name for name in needed if not needed[name] & set(needed)]
            self.assertTrue(free, sorted(needed))
            for name in free:
                del needed[name]

    def test_what_is_bound_to_many_conditions_is_not_used(self):
        unused = (ast.Yield, ast.YieldFrom, ast.GeneratorExp, ast.Lambda, ast.Try, ast.With, ast.NamedExpr, ast.Match)

        def check(text, tree):
            for node in ast.walk(tree):
                self.assertNotIsInstance(node, unused)
                if isinstance(node, ast.FunctionDef):
                    self.assertEqual(node.decorator_list, [])
                if isinstance(node, ast.Call):
                    for keyword in node.keywords:
                        self.assertEqual((node.func.id, keyword.arg), ("max", "default"))

        self.over_files(check)

    def test_is_only_with_none_true_and_false(self):
        def check(text, tree):
            for node in ast.walk(tree):
                if isinstance(node, ast.Compare) and isinstance(node.ops[0], (ast.Is, ast.IsNot)):
                    self.assertIsInstance(node.comparators[0], ast.Constant)
                    self.assertIn(repr(node.comparators[0].value), ("None", "True", "False"))

        self.over_files(check)


if __name__ == "__main__":
    unittest.main()
