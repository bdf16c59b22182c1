"""The rules of the language that can be read off the files: sizes, characters, imports, names and words."""

import ast
import builtins
import re
import unittest
from pathlib import Path

FOLDER = Path(__file__).resolve().parent.parent / "bentlines"
LIBRARY = {"math": {"gcd", "lcm", "isqrt", "comb", "perm", "factorial"}}
BUILTINS = set("""len range enumerate zip min max sum abs sorted reversed int str bool list tuple dict set isinstance
    ord repr any all divmod iter next Exception ValueError TypeError KeyError IndexError NotImplemented property
    classmethod staticmethod super""".split())
METHODS = set("""__init__ __eq__ __repr__ __str__ __len__ __enter__ __exit__ __call__ __iter__ __lt__ __le__ __gt__
    __ge__ __ne__ __add__ __sub__ __mul__ __radd__ __rsub__ __rmul__ __neg__ __pos__ __invert__ __abs__ __bool__
    __rshift__ __lshift__ __contains__ __getitem__ __setitem__""".split())
BARRED = set("register mro elements open input law version_info with_traceback add_note".split())
# The methods of builtin values that may be called (L25).
CALLED = set("""append clear copy count endswith extend find get index insert isalnum isalpha isdigit islower isspace
    isupper items join keys ljust lower lstrip partition pop remove replace reverse rfind rjust rpartition rsplit rstrip
    setdefault split splitlines startswith strip update upper values zfill bit_length""".split())
AT_ONCE = set("list tuple dict sorted sum any all enumerate zip min max len".split())
WORDS = re.compile(r"\b(type|typing|enum|Enum|Generic|Protocol|ABC|namedtuple|NamedTuple|Meta|metaclass)\b")


def package_files():
    return sorted(FOLDER.glob("*.py"))


def names_bound(tree):
    """All names that a tree binds: functions, classes, parameters, variables."""
    for node in ast.walk(tree):
        if isinstance(node, (ast.FunctionDef, ast.ClassDef)):
            yield node.name
        elif isinstance(node, ast.arg):
            yield node.arg
        elif isinstance(node, ast.Name) and isinstance(node.ctx, ast.Store):
            yield node.id
        elif isinstance(node, ast.ExceptHandler) and node.name:
            yield node.name


def local_names(tree):
    """The parameters and variables of the functions of a file."""
    for function in ast.walk(tree):
        if isinstance(function, (ast.FunctionDef, ast.Lambda)):
            for node in ast.walk(function):
                if isinstance(node, ast.arg):
                    yield node.arg
                elif isinstance(node, ast.Name) and isinstance(node.ctx, ast.Store):
                    yield node.id


def with_parents(tree):
    """All nodes of a tree but the uppermost, each with the one above it."""
    for node in ast.walk(tree):
        for child in ast.iter_child_nodes(node):
            yield child, node


def called_name(node):
    """The bare name that is called, or None."""
    return node.func.id if isinstance(node, ast.Call) and isinstance(node.func, ast.Name) else None


def functions_of(tree):
    return [node for node in ast.walk(tree) if isinstance(node, ast.FunctionDef)]


def yields(function):
    return any(isinstance(node, (ast.Yield, ast.YieldFrom)) for node in ast.walk(function))


class LanguageTest(unittest.TestCase):
    def setUp(self):
        self.texts = {path.name: path.read_text(encoding="utf-8") for path in package_files()}
        self.trees = {name: ast.parse(text) for name, text in self.texts.items()}

    def test_files(self):
        """L1, L14: plain lower-case files and nothing else."""
        for path in FOLDER.iterdir():
            if path.name != "__pycache__":
                self.assertRegex(path.name, r"\A(__init__|[a-z][a-z0-9_]*)\.py\Z")

    def test_sizes_and_characters(self):
        """L10, L14: short lines, functions and files; only characters from the blank to the tilde."""
        for name, text in self.texts.items():
            self.assertRegex(text, r"\A[ -~\n]*\Z", name)
            lines = text.split("\n")
            self.assertLess(len(lines), 400, name)
            self.assertLessEqual(max(len(line) for line in lines), 120, name)
            for function in functions_of(self.trees[name]):
                self.assertLessEqual(function.end_lineno - function.lineno + 1, 40, function.name)

    def test_imports(self):
        """L2, L16: imports name the defining file, and no two files import from each other."""
        needs = {}
        for name, tree in self.trees.items():
            needs[name] = set()
            for node in ast.walk(tree):
                self.assertNotIsInstance(node, ast.Import)
                if isinstance(node, ast.ImportFrom):
                    self.check_import(node)
                    if node.module not in LIBRARY:
                        needs[name].add(node.module.removeprefix("bentlines.") + ".py")
        while needs:
            free = [name for name in needs if not needs[name] & set(needs)]
            self.assertTrue(free, needs)
            for name in free:
                del needs[name]

    def check_import(self, node):
        names = {alias.name for alias in node.names}
        self.assertEqual([None] * len(node.names), [alias.asname for alias in node.names])
        if node.module in LIBRARY:
            self.assertLessEqual(names, LIBRARY[node.module])
            return
        self.assertEqual(0, node.level)
        self.assertTrue(node.module.startswith("bentlines."), node.module)
        body = self.trees[node.module.removeprefix("bentlines.") + ".py"].body
        defined = {part.name for part in body if isinstance(part, (ast.FunctionDef, ast.ClassDef))}
        defined |= {part.targets[0].id for part in body if isinstance(part, ast.Assign)}
        self.assertLessEqual(names, defined)

    def test_names(self):
        """L8, L12, L15, L17: plain names that mean one thing."""
        for name, tree in self.trees.items():
            imported = {alias.name for node in ast.walk(tree) if isinstance(node, ast.ImportFrom)
                        for alias in node.names}
            classes = {node.name for node in tree.body if isinstance(node, ast.ClassDef)}
            functions = {node.name for node in tree.body if isinstance(node, ast.FunctionDef)}
            self.assertFalse(set(local_names(tree)) & (imported | classes | functions), name)
            for bound in names_bound(tree):
                self.assertRegex(bound, r"\A(_?[A-Za-z][A-Za-z0-9_]*|_|__[a-z]+__)\Z")
                self.assertNotIn(bound, dir(builtins), name)
                self.assertNotIn(bound, BARRED, name)
                if bound.startswith("__"):
                    self.assertIn(bound, METHODS, name)

    def test_builtins(self):
        """L8: no other builtins than those that are listed."""
        for name, tree in self.trees.items():
            for node in ast.walk(tree):
                if isinstance(node, ast.Name) and node.id in dir(builtins):
                    self.assertIn(node.id, BUILTINS, name)

    def test_expressions(self):
        """L6, L7, L27: nothing that the language leaves out."""
        left_out = (ast.Div, ast.GeneratorExp, ast.Global, ast.AsyncFunctionDef, ast.Await, ast.Set, ast.MatMult)
        for name, tree in self.trees.items():
            for node in ast.walk(tree):
                self.assertNotIsInstance(node, left_out, name)
                if isinstance(node, ast.Constant):
                    self.assertNotIsInstance(node.value, (float, complex), name)
                    if isinstance(node.value, str):
                        self.assertNotIn("%", node.value, name)
                if isinstance(node, ast.Attribute):
                    self.assertNotIn(node.attr, (*BARRED, "sort", "args", "format"), name)

    def test_words(self):
        """L17: words that stand in comments and docstrings at the most; here nowhere."""
        for name, text in self.texts.items():
            self.assertIsNone(WORDS.search(text), name)

    def test_methods(self):
        """L18, L25, L26: methods of builtin values that may be called; own names that these do not have."""
        theirs = {name for made in (str, int, list, tuple, dict, set, bytes) for name in dir(made)}
        methods, attributes = {}, {}
        for tree in self.trees.values():
            for made in [node for node in ast.walk(tree) if isinstance(node, ast.ClassDef)]:
                for function in functions_of(made):
                    if not any(isinstance(mark, ast.Attribute) for mark in function.decorator_list):
                        methods.setdefault(function.name, set()).add(made.name)
                    for node in ast.walk(function):
                        if isinstance(node, ast.Attribute) and isinstance(node.ctx, ast.Store):
                            attributes.setdefault(node.attr, set()).add(made.name)
        plain = {name for name in methods if not name.startswith("__")}
        self.assertEqual(set(), (plain | set(attributes)) & theirs)
        # The one property that may be assigned.
        self.assertEqual({"name"}, plain & set(attributes))
        for name, tree in self.trees.items():
            for node in ast.walk(tree):
                if isinstance(node, ast.Call) and isinstance(node.func, ast.Attribute):
                    self.assertIn(node.func.attr, plain | CALLED | {"__init__"}, name)

    def test_on_the_spot(self):
        """L7, L23, L24: what is iterated at once, sets that are only measured and sorted, and stars in calls."""
        for name, tree in self.trees.items():
            for node, above in with_parents(tree):
                word = called_name(node)
                if word in ("zip", "enumerate", "reversed", "range"):
                    looped = isinstance(above, (ast.For, ast.comprehension)) and above.iter is node
                    self.assertTrue(looped or called_name(above) in AT_ONCE, name)
                if word in ("set", "frozenset"):
                    self.assertIn(called_name(above), ("len", "sorted"), name)
                if isinstance(node, ast.Starred) and isinstance(above, ast.Call):
                    self.assertIsInstance(node.value, (ast.Name, ast.Attribute), name)

    def test_errors_and_blocks(self):
        """L6, L19: only own errors are caught, and __exit__ only assigns attributes."""
        for name, tree in self.trees.items():
            for node in ast.walk(tree):
                if isinstance(node, ast.ExceptHandler):
                    self.assertTrue(node.type.id.startswith("B"), name)
                if isinstance(node, ast.Try):
                    self.assertEqual([], node.finalbody, name)
                if isinstance(node, ast.FunctionDef) and node.name == "__exit__":
                    for part in node.body:
                        self.assertIsInstance(part, ast.Assign)
                        self.assertIsInstance(part.value, ast.Attribute)
                self.assertNotIsInstance(node, (ast.AugAssign, ast.Lambda, ast.SetComp), name)

    def test_generators(self):
        """L23: no other function or method has the name of a generator."""
        functions = [function for tree in self.trees.values() for function in functions_of(tree)]
        names = [function.name for function in functions]
        for function in functions:
            if yields(function):
                self.assertEqual(1, names.count(function.name), function.name)


if __name__ == "__main__":
    unittest.main()
