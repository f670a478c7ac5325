"""What the loops of the package walk: it is not changed in them, under no name that can stand for it or a part of it."""

import ast
import os
import unittest

from tests.test_form import CHANGING, FOLDER, targets_of


def functions():
    """All functions and methods of the package, with the files in which they stand."""
    for folder, _, names in os.walk(FOLDER):
        for name in sorted(names):
            if name.endswith(".py"):
                with open(os.path.join(folder, name)) as file:
                    tree = ast.parse(file.read())
                for node in ast.walk(tree):
                    if isinstance(node, ast.FunctionDef):
                        yield name, node


def sources(node):
    """The names, and the attributes of objects, of which the value is one, or a part, or a choice."""
    if isinstance(node, ast.Name):
        return {node.id}
    if isinstance(node, ast.Attribute):
        # What one attribute of an object keeps is not what another one keeps.
        return {ast.unparse(node)} | (sources(node.value) - {"self"})
    if isinstance(node, (ast.Subscript, ast.Starred)):
        return sources(node.value)
    if isinstance(node, ast.IfExp):
        return sources(node.body) | sources(node.orelse)
    if isinstance(node, ast.BoolOp):
        return {name for value in node.values for name in sources(value)}
    return set()


def walked(node):
    """The names and attributes of what a loop over this value walks."""
    if not isinstance(node, ast.Call):
        return sources(node)
    if isinstance(node.func, ast.Attribute) and node.func.attr in ("items", "keys", "values"):
        return sources(node.func.value)
    if isinstance(node.func, ast.Name) and node.func.id in ("enumerate", "zip", "reversed"):
        return {name for part in node.args for name in walked(part)}
    return set()


def assigned(node):
    """The pairs of a target and the value that it is given, or of which it is given a part."""
    for target in node.targets:
        paired = isinstance(target, ast.Tuple) and isinstance(node.value, ast.Tuple)
        if paired and len(target.elts) == len(node.value.elts):
            yield from zip(target.elts, node.value.elts)
        else:
            yield from ((part, node.value) for part in getattr(target, "elts", [target]))


def groups_of(function):
    """Sets of names and attributes, in each of which one can stand for another or for a part of it."""
    groups = []
    for node in ast.walk(function):
        if isinstance(node, ast.Assign):
            for target, value in assigned(node):
                if isinstance(target, ast.Name) and sources(value):
                    groups.append({target.id} | (sources(value) - {"self"}))
    joined = []
    for group in groups:
        apart = [other for other in joined if not other & group]
        joined = apart + [group.union(*[other for other in joined if other & group])]
    return joined


def changed(node):
    """The values that a statement or a call changes."""
    if isinstance(node, (ast.Assign, ast.AugAssign, ast.Delete)):
        for target in targets_of(node):
            if isinstance(target, ast.Subscript):
                yield target.value
            elif isinstance(target, ast.Attribute) or isinstance(node, ast.AugAssign):
                yield target
    if isinstance(node, ast.Call) and isinstance(node.func, ast.Attribute) and node.func.attr in CHANGING:
        yield node.func.value


def faults_of(function):
    """What the loops of the function change of what they walk."""
    groups, faults = groups_of(function), []
    for loop in [node for node in ast.walk(function) if isinstance(node, ast.For)]:
        names = walked(loop.iter)
        names = names.union(*[group for group in groups if group & names])
        for node in [part for row in loop.body for part in ast.walk(row)]:
            if any(sources(value) & names for value in changed(node)):
                faults.append(ast.unparse(node))
    return faults


class Loops(unittest.TestCase):
    def test_what_a_loop_walks_is_not_changed_in_it(self):
        found = list(functions())
        self.assertGreater(len(found), 300)
        for name, function in found:
            self.assertEqual(faults_of(function), [], f"{name}: {function.name}")

    def test_faults_are_seen(self):
        for rows in (
            "for x in a: a.append(x)",
            "for x in a: a[0] = x",
            "for x in a: del a[0]",
            "for x in a: a += x",
            "for x in self.a: self.a.append(x)",
            "for at, x in enumerate(a): a.append(x)",
            "for x in a.values(): a[x] = 1",
            "for x in a[b]: a.clear()",
            "for x in (a if b else []): a.append(x)",
            "for x in a or b: b.append(x)",
            "found = []\nwhile a:\n    for x in a: found.append(x)\n    a = found",
            "row = a[b]\nfor row in a: row[0] = 1",
            "row, b = a[0], 1\nfor x in a: row[x] = 1",
            "for x in self.a:\n    b = self.a\n    b.append(x)",
        ):
            self.assertNotEqual(self.faults_in(rows), [], rows)

    def test_what_is_no_fault(self):
        for rows in (
            "for x in list(a): a.append(x)",
            "for x in a: b.append(x)",
            "for x in a: b = b + [x]",
            "for x in self.a: self.b.append(x)",
            "for row in a: row[0] = 1",
            "for x in a: b[x] = a[x]",
            "found = []\nwhile a:\n    for x in list(a): found.append(x)\n    a = found",
            "row = a[b]\nfor x in b: row[x] = 1\nfor other in a: other[0] = 1",
            "for x in range(3): a[x] = 1",
        ):
            self.assertEqual(self.faults_in(rows), [], rows)

    def faults_in(self, rows):
        lines = "\n    ".join(rows.split("\n"))
        return faults_of(ast.parse(f"def f(self, a, b):\n    {lines}").body[0])


if __name__ == "__main__":
    unittest.main()
