"""What properties and operators run: it changes nothing, and calls nothing that it is passed or holds."""

import ast
import os
import unittest

import fallsback
from tests.samples import CALM, EVERY_PROGRAM, TALK

FOLDER = os.path.dirname(fallsback.__file__)
OPERATORS = (
    "__eq__ __len__ __str__ __repr__ __add__ __or__ __getitem__ __contains__ __iter__ __ne__ __bool__ __and__ __sub__"
).split()
CHANGING = "append clear extend insert pop remove reverse setdefault update add discard sort".split()


class Code:
    """All functions, methods and properties of the package, by their names, and the attributes that objects keep."""

    def __init__(self):
        self.functions, self.methods, self.properties, self.attributes = {}, {}, {}, set()
        for folder, _, names in os.walk(FOLDER):
            for name in sorted(names):
                if name.endswith(".py"):
                    with open(os.path.join(folder, name)) as file:
                        self.read(ast.parse(file.read()))

    def read(self, tree):
        self.attributes |= attributes_of(tree)
        for node in tree.body:
            if isinstance(node, ast.FunctionDef):
                self.functions.setdefault(node.name, []).append(node)
            if isinstance(node, ast.ClassDef):
                for method in [part for part in node.body if isinstance(part, ast.FunctionDef)]:
                    method.owner = node.name
                    marks = [ast.unparse(mark) for mark in method.decorator_list]
                    table = self.properties if "property" in marks else self.methods
                    table.setdefault(method.name, []).append(method)

    def starts(self):
        found = [method for methods in self.properties.values() for method in methods]
        return found + [method for name in OPERATORS for method in self.methods.get(name, [])]

    def called(self, function):
        """All that the function can call, told by names alone: each method of this name in any class."""
        found = []
        for node in ast.walk(function):
            if isinstance(node, ast.Call) and isinstance(node.func, ast.Name):
                found += self.functions.get(node.func.id, [])
                found += [method for method in self.methods["__init__"] if method.owner == node.func.id]
            if isinstance(node, ast.Call) and isinstance(node.func, ast.Attribute):
                found += self.methods.get(node.func.attr, [])
            if isinstance(node, ast.Attribute):
                found += self.properties.get(node.attr, [])
            if isinstance(node, ast.Subscript):
                found += self.methods["__getitem__"]
        return found

    def run_by(self, start):
        found, ahead = [], [start]
        while ahead:
            function = ahead.pop()
            if function not in found:
                found.append(function)
                ahead += self.called(function)
        return found


def attributes_of(tree):
    """The names of the attributes that are assigned anywhere."""
    return {node.attr for node in ast.walk(tree) if isinstance(node, ast.Attribute) and isinstance(node.ctx, ast.Store)}


def calls_of(function, names):
    """The calls of methods with these names: told by names alone, they can be calls of what an object keeps."""
    return [ast.unparse(node) for node in ast.walk(function)
            if isinstance(node, ast.Call) and isinstance(node.func, ast.Attribute) and node.func.attr in names]


def targets_of(node):
    targets = node.targets if isinstance(node, (ast.Assign, ast.Delete)) else [node.target]
    return [part for target in targets for part in (target.elts if isinstance(target, ast.Tuple) else [target])]


def made_here(function):
    """The names to which the function assigns nothing but lists and dicts of its own."""
    given = {}
    for node in ast.walk(function):
        if isinstance(node, ast.Assign):
            for target in [part for part in targets_of(node) if isinstance(part, ast.Name)]:
                made = isinstance(node.value, (ast.List, ast.Dict, ast.ListComp)) or (
                    isinstance(node.value, ast.Call) and ast.unparse(node.value.func) in ("list", "dict", "sorted"))
                given.setdefault(target.id, []).append(made)
    parameters = [part.arg for part in function.args.args]
    return [name for name in given if all(given[name]) and name not in parameters]


def faults_of(function):
    """What the function changes that it did not create, and what it calls that it is passed."""
    own, faults = made_here(function), []
    passed = [part.arg for part in function.args.args + function.args.kwonlyargs]
    for node in ast.walk(function):
        if isinstance(node, (ast.Assign, ast.AugAssign, ast.Delete)):
            for target in targets_of(node):
                text = ast.unparse(target)
                inner = isinstance(target, ast.Subscript) and ast.unparse(target.value) in own
                if not isinstance(target, ast.Name) and not inner and not (
                        function.name == "__init__" and text.startswith("self.") and text.count(".") == 1):
                    faults.append(ast.unparse(node))
        if isinstance(node, ast.Call):
            text = ast.unparse(node.func)
            changes = isinstance(node.func, ast.Attribute) and node.func.attr in CHANGING
            if text in passed or (changes and ast.unparse(node.func.value) not in own):
                faults.append(ast.unparse(node))
    return faults


class Form(unittest.TestCase):
    def test_properties_and_operators_change_nothing(self):
        code = Code()
        starts = code.starts()
        self.assertGreater(len(starts), 60)
        for start in starts:
            for function in code.run_by(start):
                self.assertEqual(faults_of(function), [], f"{start.owner}.{start.name} runs {function.name}")

    def test_properties_and_operators_call_nothing_that_objects_keep(self):
        code = Code()
        self.assertIn("index", code.attributes)
        for start in code.starts():
            for function in code.run_by(start):
                found = calls_of(function, code.attributes)
                self.assertEqual(found, [], f"{start.owner}.{start.name} runs {function.name}")

    def test_calls_of_what_objects_keep_are_seen(self):
        tree = ast.parse("class Wrong:\n    def f(self, a):\n        self.index = a\n        a.b.many += 1")
        self.assertEqual(attributes_of(tree), {"index", "many"})
        wrong = ("return a.index(1)", "return [name for name in list(a).index(a)]", "a.b.many()")
        right = ("return a.index", "return a.find(1)", "a.many = 1", "return index(a)", "return a.index + a.get(1)")
        for texts, expected in ((wrong, True), (right, False)):
            for text in texts:
                function = ast.parse(f"def f(self, a):\n    {text}").body[0]
                self.assertIs(bool(calls_of(function, {"index", "many"})), expected, text)

    def test_faults_are_seen(self):
        wrong = ("self.x = 1", "a[0] = 1", "a.append(1)", "b = a\nb.append(1)", "a()", "del a[0]", "b = {}\nb.x = 1", "a.x += 1")
        right = ("b = []\nb.append(1)", "b = list(a)\nb[0] = 1", "b = a + 1", "b = {}\nb[0] = a", "len(a)", "x = y = 1")
        for texts, expected in ((wrong, True), (right, False)):
            for text in texts:
                lines = "\n    ".join(text.split("\n"))
                self.assertIs(bool(faults_of(ast.parse(f"def f(self, a):\n    {lines}").body[0])), expected, text)

    def test_talk_makes_nothing_when_it_is_read(self):
        for program in EVERY_PROGRAM:
            before = {name: repr(value) for name, value in vars(program).items()}
            self.assertEqual(program.talk.marks, ())
            self.assertIs(program.talk, program.talk)
            self.assertEqual({name: repr(value) for name, value in vars(program).items()}, before)
        self.assertEqual(TALK.talk, CALM.talk)


if __name__ == "__main__":
    unittest.main()
