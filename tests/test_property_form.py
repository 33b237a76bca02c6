"""The form of properties (L5 Properties): what a property runs changes nothing but what it created itself."""

import ast
import glob
import os
import unittest

import hearpurse

FOLDER = os.path.dirname(os.path.abspath(hearpurse.__file__))

# In a package with properties the rule holds for these, too.
ALSO = ("__eq__", "__str__", "__repr__", "__len__")

MAKERS = ("list", "dict", "set", "sorted")
MAKING = (ast.List, ast.Dict, ast.ListComp, ast.DictComp)
MODIFIERS = ("append", "extend", "insert", "pop", "remove", "clear", "update", "setdefault", "reverse", "sort")


class Package:
    """The functions of some files, by what a call may name."""

    def __init__(self, texts):
        self.functions = {}
        self.methods = {}
        self.properties = {}
        for place, text in texts.items():
            for node in ast.parse(text).body:
                if isinstance(node, ast.FunctionDef):
                    self.functions.setdefault(node.name, []).append((place, node))
                if isinstance(node, ast.ClassDef):
                    self.add_class(place, node)

    def add_class(self, place, node):
        for each in node.body:
            if not isinstance(each, ast.FunctionDef):
                continue
            # A class that is called runs its __init__.
            name = node.name if each.name == "__init__" else each.name
            is_property = any(isinstance(sign, ast.Name) and sign.id == "property" for sign in each.decorator_list)
            kept = self.properties if is_property else self.functions if name == node.name else self.methods
            kept.setdefault(name, []).append((place, each))

    def named_in(self, function):
        """Return all functions that the function may run, by the names that it calls and reads."""
        found = []
        for node in ast.walk(function):
            if isinstance(node, ast.Call) and isinstance(node.func, ast.Name):
                found += self.functions.get(node.func.id, [])
            if isinstance(node, ast.Attribute):
                found += self.methods.get(node.attr, []) + self.properties.get(node.attr, [])
        return found

    def run_by_properties(self):
        """Return all pairs of a file and a function that reading a property may run."""
        waiting = [pair for pairs in self.properties.values() for pair in pairs]
        waiting += [pair for name in ALSO for pair in self.methods.get(name, [])]
        found = []
        while waiting:
            pair = waiting.pop()
            if pair not in found:
                found.append(pair)
                waiting += self.named_in(pair[1])
        return found


def is_new(value):
    """Tell whether the value is a list, a dict or an object that is created on the spot."""
    if isinstance(value, ast.Call) and isinstance(value.func, ast.Name):
        # The name of a class begins with a capital letter.
        return value.func.id in MAKERS or value.func.id[0].isupper()
    return isinstance(value, MAKING)


def created_in(function):
    """Return the names that the function only ever assigns what it creates; those of an __init__ have its object."""
    plain = [node for node in ast.walk(function) if isinstance(node, ast.Assign)]
    given = [(target.id, is_new(node.value)) for node in plain for target in node.targets
             if isinstance(target, ast.Name)]
    if function.name == "__init__":
        given.append((function.args.args[0].arg, True))
    return {name for name, _ in given if all(new for other, new in given if other == name)}


def is_plain_step(node):
    """Tell whether an augmented assignment is one that the rule surely allows."""
    if not isinstance(node.target, ast.Name):
        return False
    if isinstance(node.op, ast.Add):
        # Not isinstance, as True is no integer here.
        return isinstance(node.value, ast.Constant) and type(node.value.value) is int
    return isinstance(node.op, ast.Sub)


def holder_changed(node):
    """Return what has an item or an attribute changed by the node, or None."""
    if isinstance(node, (ast.Subscript, ast.Attribute)) and not isinstance(node.ctx, ast.Load):
        return node.value
    if isinstance(node, ast.Call) and isinstance(node.func, ast.Attribute) and node.func.attr in MODIFIERS:
        return node.func.value
    return None


def flaws(texts):
    """Return the sorted pairs (file, row) of all changes that a property may not make."""
    found = set()
    for place, function in Package(texts).run_by_properties():
        created = created_in(function)
        for node in ast.walk(function):
            holder = holder_changed(node)
            if holder is not None and not (isinstance(holder, ast.Name) and holder.id in created):
                found.add((place, node.lineno))
            if isinstance(node, ast.AugAssign) and not is_plain_step(node):
                found.add((place, node.lineno))
    return sorted(found)


def package_texts():
    """Return the text of each file of the package."""
    texts = {}
    for path in sorted(glob.glob(os.path.join(FOLDER, "*.py"))):
        with open(path, encoding="utf-8") as file:
            texts[os.path.basename(path)] = file.read()
    return texts


def box(*rows, beside=""):
    """Return a file with a class whose property `told` has these rows."""
    lines = [f"        {row}\n" for row in rows]
    return {"box.py": beside + "class Box:\n    @property\n    def told(self):\n" + "".join(lines)}


class TestPropertyForm(unittest.TestCase):
    def test_package_keeps_the_rule(self):
        self.assertEqual(flaws(package_texts()), [])

    def test_all_that_is_called_is_looked_at(self):
        names = {node.name for _, node in Package(package_texts()).run_by_properties()}
        for name in ("balances", "ideal", "claims", "grants", "totals_of", "ancestors", "made_of", "twin_of", "__eq__"):
            self.assertIn(name, names)

    def test_a_sum_at_an_item_is_found(self):
        self.assertEqual(flaws(box("found = {}", "found[1] += self.n", "return found")), [("box.py", 5)])
        self.assertEqual(flaws(box("found = {}", "found[1] -= 1", "return found")), [("box.py", 5)])

    def test_a_sum_that_is_no_literal_is_found(self):
        self.assertEqual(flaws(box("found = 0", "found += self.n", "return found")), [("box.py", 5)])

    def test_a_sum_in_a_called_function_is_found(self):
        beside = "def tell(found):\n    found[1] += 1\n\n\n"
        self.assertEqual(flaws(box("return tell({1: 0})", beside=beside)), [("box.py", 2)])

    def test_a_change_of_what_was_not_created_is_found(self):
        self.assertEqual(flaws(box("rows = self.rows", "rows[0] = 1", "return rows")), [("box.py", 5)])
        self.assertEqual(flaws(box("self.rows.append(1)", "return 1")), [("box.py", 4)])
        self.assertEqual(flaws(box("self.n = 1", "return 1")), [("box.py", 4)])
        self.assertEqual(flaws(box("other = Box()", "other.n = 1", "return other")), [])

    def test_what_the_rule_allows_is_no_flaw(self):
        rows = ("found = {}", "found[1] = self.n + 1", "many = 0", "many += 1", "many -= self.n", "return found")
        self.assertEqual(flaws(box(*rows)), [])


if __name__ == "__main__":
    unittest.main()
