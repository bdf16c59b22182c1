"""L5, L28: what properties and operators run yields nothing, and changes nothing that it did not make itself."""

import ast
import unittest

from tests.test_language import functions_of, package_files, yields

# These may change their own object, and nothing that has to keep still runs them by their sign.
MAY_CHANGE = ("__init__", "__call__", "__enter__", "__exit__", "__setitem__")
CHANGING = set("append clear extend insert pop remove reverse setdefault sort update add discard".split())
MADE = (ast.List, ast.Dict, ast.ListComp, ast.DictComp)


def is_property(function):
    return any(isinstance(mark, ast.Name) and mark.id == "property" for mark in function.decorator_list)


def keeps_still(function):
    """Whether this is a property or an operator, or one of the methods that are held to the same."""
    name = function.name
    in_place = name.startswith("__i") and name not in ("__init__", "__invert__", "__iter__")
    return is_property(function) or name.startswith("__") and name not in MAY_CHANGE and not in_place


class Reach:
    """All functions of some trees, and which of them the properties and operators run."""

    def __init__(self, trees):
        self.named = {}
        self.makers = {}
        for tree in trees:
            for function in functions_of(tree):
                self.named.setdefault(function.name, []).append(function)
            for node in ast.walk(tree):
                if isinstance(node, ast.ClassDef):
                    makers = [part for part in functions_of(node) if part.name == "__init__"]
                    self.makers.setdefault(node.name, []).extend(makers)
        self.found = []
        waiting = [function for many in self.named.values() for function in many if keeps_still(function)]
        while waiting:
            function = waiting.pop()
            if function not in self.found:
                self.found.append(function)
                waiting.extend(self.run_by(function))

    def run_by(self, function):
        """What a function may run, told by the names that it calls; `cls(..)` may make any object."""
        for node in ast.walk(function):
            if isinstance(node, ast.Call):
                name = node.func.attr if isinstance(node.func, ast.Attribute) else getattr(node.func, "id", "")
                yield from self.named.get(name, [])
                yield from self.makers.get(name, [])
                if name == "cls":
                    yield from self.named.get("__init__", [])
            elif isinstance(node, ast.Attribute):
                yield from [other for other in self.named.get(node.attr, []) if is_property(other)]

    def yielding(self):
        return sorted({function.name for function in self.found if yields(function)})

    def changing(self):
        return sorted({function.name for function in self.found if list(changes_of(function))})


def made_names(function):
    """The local names that are only ever assigned a list or dict that is written there."""
    told = {}
    for node in ast.walk(function):
        if isinstance(node, ast.Assign):
            for target in node.targets:
                for part in ast.walk(target):
                    if isinstance(part, ast.Name) and isinstance(part.ctx, ast.Store):
                        told.setdefault(part.id, []).append(target is part and isinstance(node.value, MADE))
        elif isinstance(node, (ast.For, ast.NamedExpr, ast.arg)):
            target = node.arg if isinstance(node, ast.arg) else getattr(node.target, "id", "")
            told.setdefault(target, []).append(False)
    return [name for name, marks in told.items() if all(marks)]


def changes_of(function):
    """All places where a function changes something that it did not make itself; `+=` counts, whatever it is at."""
    made = made_names(function)
    for node in ast.walk(function):
        if isinstance(node, (ast.AugAssign, ast.Delete, ast.Nonlocal)):
            yield node
        elif isinstance(node, (ast.Attribute, ast.Subscript)) and isinstance(node.ctx, ast.Store):
            own = getattr(node.value, "id", "")
            if own not in made and not (function.name == "__init__" and own == "self"):
                yield node
        elif isinstance(node, ast.Call) and isinstance(node.func, ast.Attribute) and node.func.attr in CHANGING:
            if getattr(node.func.value, "id", "") not in made:
                yield node


def reach_of(text):
    return Reach([ast.parse(text)])


class ReachTest(unittest.TestCase):
    def setUp(self):
        self.reach = Reach([ast.parse(path.read_text(encoding="utf-8")) for path in package_files()])

    def test_what_is_run_is_found(self):
        names = [function.name for function in self.reach.found]
        for name in ("bad", "marks", "__neg__", "__add__", "__init__", "rolled", "lot_sign", "signs_of_four",
                     "check_size", "threes_in", "fours_in", "pairs_in", "order_sign"):
            self.assertIn(name, names)

    def test_nothing_that_is_run_yields(self):
        self.assertEqual([], self.reach.yielding())

    def test_nothing_that_is_run_changes_what_it_did_not_make(self):
        self.assertEqual([], self.reach.changing())


class FinderTest(unittest.TestCase):
    """The finder itself: a broken rule is seen through whatever stands in between."""

    def test_a_property_that_goes_over_a_generator(self):
        text = "def steps():\n yield 1\nclass Box:\n @property\n def many(self):\n  return len(list(steps()))\n"
        self.assertEqual(["steps"], reach_of(text).yielding())
        self.assertEqual([], reach_of(text.replace("@property", "")).yielding())

    def test_an_operator_that_makes_an_object(self):
        text = ("def steps():\n yield 1\ndef rows():\n return list(steps())\nclass Box:\n"
                " def __init__(self):\n  self.rows = rows()\n def __neg__(self):\n  return self.turned()\n"
                " def turned(self):\n  return Box()\n")
        self.assertEqual(["steps"], reach_of(text).yielding())
        self.assertEqual([], reach_of(text).changing())
        self.assertEqual([], reach_of(text.replace("return Box()", "return 1")).yielding())

    def test_a_class_method_and_a_property_in_between(self):
        text = ("class Box:\n def __init__(self):\n  self.n = list(self.steps())\n def steps(self):\n  yield 1\n"
                " @classmethod\n def made(cls):\n  return cls()\n @property\n def other(self):\n  return Box.made()\n"
                " def __len__(self):\n  return len(self.other.n)\n")
        self.assertEqual(["steps"], reach_of(text).yielding())

    def test_changes(self):
        for row in ("xs.append(1)", "self.n = 1", "xs[0] = 1", "n = 0\n n += 1", "del xs[0]", "self.xs.pop()",
                    "ys = xs\n ys.append(1)", "ys = []\n ys = xs\n ys.append(1)"):
            text = f"def work(self, xs):\n {row}\nclass Box:\n def __neg__(self):\n  return work(self, self.xs)\n"
            self.assertEqual(["work"], reach_of(text).changing(), row)
        for row in ("ys = []\n ys.append(1)", "ys = {}\n ys[0] = 1", "ys = xs + [1]", "return xs.index(1)"):
            text = f"def work(self, xs):\n {row}\nclass Box:\n def __neg__(self):\n  return work(self, self.xs)\n"
            self.assertEqual([], reach_of(text).changing(), row)


if __name__ == "__main__":
    unittest.main()
