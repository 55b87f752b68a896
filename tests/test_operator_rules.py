"""The rules about what operators and properties run: what it calls, and what it changes."""

import ast
import unittest

from tests.looks import MODIFIERS, assigned_in, properties_in, trees


def called_in(node):
    """The names that a function calls, of functions and classes, and of methods, and those of properties it reads."""
    for part in ast.walk(node):
        if isinstance(part, ast.Call):
            yield part.func.id if isinstance(part.func, ast.Name) else getattr(part.func, "attr", "")
        if isinstance(part, ast.Attribute) and isinstance(part.ctx, ast.Load):
            yield part.attr


def bodies_in(trees_found):
    """By the name by which it is called each function, method and `__init__`, and the names of those that start runs.

    Operators, `__str__` and their kind, and properties start runs that change nothing.
    """
    bodies, starts = {}, []
    for tree in trees_found:
        for node in tree.body:
            if isinstance(node, ast.FunctionDef):
                bodies.setdefault(node.name, []).append(node)
            if not isinstance(node, ast.ClassDef):
                continue
            # A class without an `__init__` calls that of a base class.
            bodies.setdefault(node.name, []).extend(ast.parse(f"{ast.unparse(base)}()") for base in node.bases)
            for part in node.body:
                if not isinstance(part, ast.FunctionDef):
                    continue
                marks = [ast.unparse(mark) for mark in part.decorator_list]
                if part.name == "__init__":
                    bodies[node.name].append(part)
                elif part.name.startswith("__") and part.name not in ("__call__", "__iter__"):
                    starts.append(part)
                elif "property" in marks:
                    starts.append(part)
                    bodies.setdefault(part.name, []).append(part)
                elif part.name + ".setter" not in marks:
                    bodies.setdefault(part.name, []).append(part)
    return bodies, starts


def reached_from(bodies, starts):
    """All bodies that the starts run, by the names that are called alone, whatever class they stand in."""
    waiting, met = list(starts), []
    for node in waiting:
        if not any(node is other for other in met):
            met.append(node)
            waiting.extend(body for name in called_in(node) for body in bodies.get(name, []))
    return met


def is_new(value):
    """Whether a value that is assigned is surely a list or a dict that the function creates."""
    if isinstance(value, ast.Call):
        return isinstance(value.func, ast.Name) and value.func.id in ("list", "dict", "sorted")
    if isinstance(value, ast.BinOp):
        return is_new(value.left) or (isinstance(value.op, ast.Add) and is_new(value.right))
    return isinstance(value, (ast.List, ast.Dict, ast.ListComp, ast.DictComp)) or (
        isinstance(value, ast.Subscript) and isinstance(value.slice, ast.Slice))


def changed_from_outside(function):
    """The rows in which a function changes what it did not create itself as a list, a dict or an object of a class."""
    known = {}
    for part in ast.walk(function):
        if isinstance(part, ast.Assign):
            for target in part.targets:
                pairs = [(target, part.value)]
                if isinstance(target, ast.Tuple):
                    values = part.value.elts if isinstance(part.value, ast.Tuple) else [None] * len(target.elts)
                    pairs = list(zip(target.elts, values))
                for to, value in pairs:
                    known.setdefault(ast.unparse(to), []).append(value)
        if isinstance(part, (ast.For, ast.comprehension)):
            for name in ast.walk(part.target):
                known.setdefault(ast.unparse(name), []).append(None)
    for part in ast.walk(function):
        held = None
        if isinstance(part, ast.Subscript) and isinstance(part.ctx, (ast.Store, ast.Del)):
            held = part.value
        if isinstance(part, ast.Call) and isinstance(part.func, ast.Attribute) and part.func.attr in MODIFIERS:
            held = part.func.value
        if held is not None:
            # Also `found.setdefault(k, []).append(x)`, and items of what it created.
            while isinstance(held, (ast.Subscript, ast.Call)):
                held = held.value if isinstance(held, ast.Subscript) else getattr(held.func, "value", held.func)
            values = known.get(ast.unparse(held), [])
            if values == [] or not all(value is not None and is_new(value) for value in values):
                yield part.lineno
        if isinstance(part, ast.Attribute) and isinstance(part.ctx, ast.Store) and function.name != "__init__":
            values = known.get(ast.unparse(part.value), [])
            made = [value for value in values if isinstance(value, ast.Call) and ast.unparse(value.func)[:1].isupper()]
            kept = any(isinstance(row, ast.If) and ast.unparse(row.test) == ast.unparse(part) + " is None" for row in function.body)
            if not kept and (values == [] or len(made) < len(values)):
                yield part.lineno


def held_in(trees_found):
    """The names of all that objects hold: of attributes, of properties, and of values of classes."""
    names = set()
    for tree in trees_found:
        names.update(name for name, row in assigned_in(tree))
        names.update(name for properties, setters in properties_in(tree) for name in properties)
        for shape in ast.walk(tree):
            if isinstance(shape, ast.ClassDef):
                names.update(to.id for row in shape.body if isinstance(row, ast.Assign) for to in row.targets)
    return names


def calls_of_what_is_held(function, held):
    """The rows in which a function calls what may be held by an object, passed to it, or a value of its own."""
    own = {part.arg for part in ast.walk(function) if isinstance(part, ast.arg)}
    own |= {part.id for part in ast.walk(function) if isinstance(part, ast.Name) and isinstance(part.ctx, ast.Store)}
    for part in ast.walk(function):
        if isinstance(part, ast.Call):
            if isinstance(part.func, ast.Attribute):
                wrong = part.func.attr in held
            else:
                wrong = not isinstance(part.func, ast.Name) or part.func.id in own
            if wrong:
                yield part.lineno


def is_created(value):
    """Whether an item is surely a list or a dict that the function creates: no product, whatever its factors are."""
    if isinstance(value, ast.Call):
        return isinstance(value.func, ast.Name) and value.func.id in ("list", "dict", "sorted")
    return isinstance(value, (ast.List, ast.Dict, ast.ListComp, ast.DictComp))


def items_put(value):
    """The items of a list or a dict that is written out, None in a list for what cannot be seen."""
    if isinstance(value, ast.List):
        return value.elts
    if isinstance(value, ast.Dict):
        return value.values
    if isinstance(value, ast.ListComp):
        return [value.elt]
    return [value.value if isinstance(value, ast.DictComp) else None]


def told_by(node):
    """The name and the number of indexes by which a value is told, None if it is told otherwise."""
    many = 0
    while isinstance(node, ast.Subscript):
        node, many = node.value, many + 1
    return (node.id, many) if isinstance(node, ast.Name) else None


def items_changed(function):
    """The names of what a function changes in items of items of it, with the rows in which it does."""
    for part in ast.walk(function):
        told = None
        if isinstance(part, ast.Subscript) and isinstance(part.ctx, (ast.Store, ast.Del)):
            told = told_by(part)
        elif isinstance(part, ast.Call) and isinstance(part.func, ast.Attribute) and part.func.attr in MODIFIERS:
            told = told_by(ast.Subscript(part.func.value))
        if told is not None and told[1] > 1:
            yield told[0], part.lineno


def stands_well(name, above):
    """Whether a name stands where it is indexed, gone over, measured, copied or returned, or is given an item."""
    around = above[name]
    if isinstance(around, ast.Call) and isinstance(around.func, ast.Name):
        return around.func.id in ("len", "list", "tuple", "enumerate", "zip", "range")
    if isinstance(around, ast.Tuple):
        around = above[around]
    if isinstance(around, ast.Attribute):
        return around.attr in ("append", "setdefault", "items", "values", "keys", "copy")
    return isinstance(around, (ast.Subscript, ast.For, ast.comprehension, ast.Return, ast.Starred))


def items_it_did_not_create(function):
    """The rows in which a function changes items of items that it did not surely create, or that others may hold."""
    above = {inner: outer for outer in ast.walk(function) for inner in ast.iter_child_nodes(outer)}
    for changed, row in items_changed(function):
        put = []
        for part in ast.walk(function):
            if isinstance(part, ast.Assign):
                for to in part.targets:
                    if isinstance(to, ast.Name) and to.id == changed:
                        put.extend(items_put(part.value))
                    elif changed in [name.id for name in ast.walk(to) if isinstance(name, ast.Name)]:
                        # An item is put in: of deeper ones the row itself is looked at.
                        put.extend([part.value] if told_by(to) == (changed, 1) else [])
                        put.extend([None] if isinstance(to, (ast.Tuple, ast.List)) else [])
            if isinstance(part, ast.Call) and isinstance(part.func, ast.Attribute) and told_by(part.func.value) == (changed, 0):
                put.extend(part.args[-1:] if part.func.attr in ("append", "setdefault") else [])
        names = [part for part in ast.walk(function) if isinstance(part, ast.Name) and part.id == changed]
        made = any(isinstance(above[name], ast.Assign) and isinstance(name.ctx, ast.Store) for name in names)
        well = all(stands_well(name, above) for name in names if isinstance(name.ctx, ast.Load))
        if not made or not well or not all(item is not None and is_created(item) for item in put):
            yield row


class Operators(unittest.TestCase):
    def test_what_operators_and_properties_call_assigns_no_name_with_a_setter(self):
        every = [tree for path, tree in trees()]
        barred = {name for tree in every for properties, setters in properties_in(tree) for name in setters}
        self.assertIn("word", barred)
        bodies, starts = bodies_in(every)
        met = reached_from(bodies, starts)
        self.assertGreater(len(met), 60)
        for node in met:
            for name, row in assigned_in(node):
                self.assertNotIn(name, barred, (getattr(node, "name", ""), row))

    def test_operators_and_properties_change_nothing_but_what_they_created(self):
        for node in reached_from(*bodies_in([tree for path, tree in trees()])):
            if isinstance(node, ast.FunctionDef):
                self.assertEqual(list(changed_from_outside(node)), [], node.name)

    def test_the_look_at_changes_sees_what_it_should(self):
        for rows, wanted in (
            ("xs.append(1)", [2]), ("ys = []\n ys.append(1)", []), ("ys = xs\n ys[0] = 1", [3]), ("ys = list(xs)\n ys[0][1] = 1", []),
            ("self.x = 1", [2]), ("box = Box(1)\n box.x = 1", []), ("box = made(1)\n box.x = 1", [3]), ("for y in xs:\n  y.pop()", [3]),
            ("ys = {}\n ys.setdefault(1, []).append(2)", []), ("if self._x is None:\n  self._x = 1\n return self._x", []),
        ):
            tree = ast.parse("def f(self, xs):\n " + rows)
            self.assertEqual(list(changed_from_outside(tree.body[0])), wanted, rows)

    def test_the_look_at_what_is_called_sees_what_it_should(self):
        tree = ast.parse(
            "class Box:\n def __init__(self):\n  self.word = 1\n def __mul__(self, other):\n  return made(other)\n"
            " def free(self):\n  self.word = 2\n @property\n def size(self):\n  return self.inner.told()\n"
            " def told(self):\n  self.held = 3\nclass Lid(Box):\n pass\ndef made(x):\n return Lid()\n"
        )
        met = reached_from(*bodies_in([tree]))
        self.assertEqual(sorted(name for node in met for name, row in assigned_in(node)), ["held", "word"])

    def test_operators_and_properties_call_nothing_that_is_held(self):
        every = [tree for path, tree in trees()]
        held = held_in(every)
        self.assertLessEqual({"index", "count", "word", "basis", "machine", "turn", "found"}, held)
        for node in reached_from(*bodies_in(every)):
            if isinstance(node, ast.FunctionDef):
                self.assertEqual(list(calls_of_what_is_held(node, held)), [], node.name)

    def test_the_look_at_what_is_held_sees_what_it_should(self):
        tree = ast.parse("class Box:\n MOST = 3\n def __init__(self, n):\n  self.count = n\n @property\n def many(self):\n  return 1\n")
        held = held_in([tree])
        self.assertEqual(held, {"MOST", "count", "many"})
        for row, wanted in (
            ("return row.count(None)", [2]), ("return box.rows[0].many()", [2]), ("return len([x for x in row])", []),
            ("return row.find(1) + other(2)", []), ("return row(1)", [2]), ("new = box\n return new(1)", [3]),
            ("return row[0](1)", [2]), ("return [one(1) for one in row]", [2]), ("return made(1)(2)", [2]), ("return box.count", []),
        ):
            tree = ast.parse("def f(box, row):\n " + row)
            self.assertEqual(list(calls_of_what_is_held(tree.body[0], held)), wanted, row)
        # By a method of the same name in another class, too.
        tree = ast.parse(
            "class Box:\n def __mul__(self, other):\n  return self.named(other)\n def named(self, other):\n  return 1\n"
            "class Lid:\n def __init__(self):\n  self.index = 1\n def named(self, other):\n  return other.index(2)\n"
        )
        wrong = [row for node in reached_from(*bodies_in([tree])) for row in calls_of_what_is_held(node, held_in([tree]))]
        self.assertEqual(wrong, [10])

    def test_items_of_items_are_changed_only_where_they_were_created(self):
        many = 0
        for path, tree in trees():
            for node in ast.walk(tree):
                if isinstance(node, ast.FunctionDef):
                    many += len(list(items_changed(node)))
                    self.assertEqual(list(items_it_did_not_create(node)), [], (path, node.name))
        self.assertGreater(many, 10)

    def test_the_look_at_items_sees_what_it_should(self):
        for rows, wanted in (
            ("ys = [[None for x in xs] for x in xs]\n ys[0][1] = 2\n return ys", []),
            ("ys = [[None] * 8 for x in xs]\n ys[0][1] = 2\n return ys", [3]),
            ("ys = [None] * 8\n ys[0][1] = 2", [3]), ("ys = []\n ys.append([0] * 8)\n ys[0][1] = 2", [4]),
            ("ys = []\n ys.append([])\n ys[0].append(2)\n return len(ys), list(ys)", []), ("xs[0][1] = 2", [2]),
            ("ys = [list(x) for x in xs]\n del ys[0][1]\n return made(ys)", [3]),
            ("ys = [list(x) for x in xs]\n ys[0].pop()\n return made([tuple(y) for y in ys])", []),
            ("ys = {}\n ys[1] = xs\n ys[1].append(2)", [4]), ("ys = {}\n ys[1] = {}\n ys[1][3] = 2\n return ys", []),
            ("ys = [[] for x in xs]\n ys[0][1] += 2\n zs = ys", [3]), ("ys = [xs, []]\n ys[1].append(2)", [3]),
            ("ys = list(xs)\n ys[0] = 1", []), ("ys = list(xs)\n ys[0][0] = 1", [3]),
        ):
            tree = ast.parse("def f(xs):\n " + rows)
            self.assertEqual(list(items_it_did_not_create(tree.body[0])), wanted, rows)


if __name__ == "__main__":
    unittest.main()
