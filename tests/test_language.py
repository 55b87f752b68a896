"""The rules of the subset that a look at the files can tell."""

import ast
import builtins
import pathlib
import re
import unittest

PACKAGE = pathlib.Path(__file__).parent.parent / "sevenball"
LIBRARY = {
    "heapq": {"heappush", "heappop", "heapify", "heapreplace", "heappushpop"},
    "math": {"gcd", "lcm", "isqrt", "comb", "perm", "factorial"},
    "itertools": {"chain", "accumulate", "pairwise", "islice", "zip_longest"},
    "collections": {"defaultdict", "deque"},
}
BUILTINS = set(
    "len range enumerate zip min max sum abs sorted reversed int str bool list tuple dict set isinstance ord repr any"
    " all divmod pow iter next map ValueError TypeError KeyError IndexError StopIteration ZeroDivisionError"
    " NotImplemented AttributeError property staticmethod classmethod super".split()
)
BARRED = re.compile(
    r"\b(type|typing|typing_extensions|enum|Enum|Generic|Protocol|ABC|namedtuple|NamedTuple|register|mro|elements|open"
    r"|input|law|eval|exec|globals|locals|vars|dir|id|help|exit|quit|compile)\b"
)
OPERATORS = {
    "__lt__", "__le__", "__gt__", "__ge__", "__mul__", "__invert__", "__neg__", "__bool__", "__contains__",
    "__getitem__", "__and__", "__or__", "__sub__", "__xor__", "__init__", "__eq__", "__str__", "__len__", "__iter__",
    "__call__",
}


def files():
    return sorted(PACKAGE.rglob("*.py"))


def trees():
    return [(path, ast.parse(path.read_text())) for path in files()]


def defined_in(tree):
    names = [node.name for node in tree.body if isinstance(node, (ast.FunctionDef, ast.ClassDef))]
    return names + [node.targets[0].id for node in tree.body if isinstance(node, ast.Assign)]


def properties_in(tree):
    """For each class the names of its properties, and those of them that have a setter."""
    for shape in ast.walk(tree):
        if isinstance(shape, ast.ClassDef):
            marks = [(node.name, ast.unparse(mark)) for node in shape.body if isinstance(node, ast.FunctionDef)
                     for mark in node.decorator_list]
            yield ({name for name, mark in marks if mark == "property"},
                   {name for name, mark in marks if mark == name + ".setter"})


def assigned_in(tree):
    """The names of all attributes that some row assigns or deletes, also by setattr, with these rows."""
    for node in ast.walk(tree):
        if isinstance(node, ast.Attribute) and isinstance(node.ctx, (ast.Store, ast.Del)):
            yield node.attr, node.lineno
        if isinstance(node, ast.Call) and ast.unparse(node.func) in ("setattr", "delattr"):
            yield node.args[1].value, node.lineno


def called_in(node):
    """The names that a function calls, of functions and classes, and of methods, and those of properties it reads."""
    for part in ast.walk(node):
        if isinstance(part, ast.Call):
            yield part.func.id if isinstance(part.func, ast.Name) else getattr(part.func, "attr", "")
        if isinstance(part, ast.Attribute) and isinstance(part.ctx, ast.Load):
            yield part.attr


def bodies_in(trees_found):
    """By the name by which it is called each function, method and `__init__`, and the names of those that start runs.

    Operators, `__str__` and their kind, and properties start runs that change nothing.
    """
    bodies, starts = {}, []
    for tree in trees_found:
        for node in tree.body:
            if isinstance(node, ast.FunctionDef):
                bodies.setdefault(node.name, []).append(node)
            if not isinstance(node, ast.ClassDef):
                continue
            # A class without an `__init__` calls that of a base class.
            bodies.setdefault(node.name, []).extend(ast.parse(f"{ast.unparse(base)}()") for base in node.bases)
            for part in node.body:
                if not isinstance(part, ast.FunctionDef):
                    continue
                marks = [ast.unparse(mark) for mark in part.decorator_list]
                if part.name == "__init__":
                    bodies[node.name].append(part)
                elif part.name.startswith("__") and part.name not in ("__call__", "__iter__"):
                    starts.append(part)
                elif "property" in marks:
                    starts.append(part)
                    bodies.setdefault(part.name, []).append(part)
                elif part.name + ".setter" not in marks:
                    bodies.setdefault(part.name, []).append(part)
    return bodies, starts


def reached_from(bodies, starts):
    """All bodies that the starts run, by the names that are called alone, whatever class they stand in."""
    waiting, met = list(starts), []
    for node in waiting:
        if not any(node is other for other in met):
            met.append(node)
            waiting.extend(body for name in called_in(node) for body in bodies.get(name, []))
    return met


def is_new(value):
    """Whether a value that is assigned is surely a list or a dict that the function creates."""
    if isinstance(value, ast.Call):
        return isinstance(value.func, ast.Name) and value.func.id in ("list", "dict", "sorted")
    if isinstance(value, ast.BinOp):
        return is_new(value.left) or (isinstance(value.op, ast.Add) and is_new(value.right))
    return isinstance(value, (ast.List, ast.Dict, ast.ListComp, ast.DictComp)) or (
        isinstance(value, ast.Subscript) and isinstance(value.slice, ast.Slice))


def changed_from_outside(function):
    """The rows in which a function changes what it did not create itself as a list, a dict or an object of a class."""
    known = {}
    for part in ast.walk(function):
        if isinstance(part, ast.Assign):
            for target in part.targets:
                pairs = [(target, part.value)]
                if isinstance(target, ast.Tuple):
                    values = part.value.elts if isinstance(part.value, ast.Tuple) else [None] * len(target.elts)
                    pairs = list(zip(target.elts, values))
                for to, value in pairs:
                    known.setdefault(ast.unparse(to), []).append(value)
        if isinstance(part, (ast.For, ast.comprehension)):
            for name in ast.walk(part.target):
                known.setdefault(ast.unparse(name), []).append(None)
    for part in ast.walk(function):
        held = None
        if isinstance(part, ast.Subscript) and isinstance(part.ctx, (ast.Store, ast.Del)):
            held = part.value
        if isinstance(part, ast.Call) and isinstance(part.func, ast.Attribute) and part.func.attr in MODIFIERS:
            held = part.func.value
        if held is not None:
            # Also `found.setdefault(k, []).append(x)`, and items of what it created.
            while isinstance(held, (ast.Subscript, ast.Call)):
                held = held.value if isinstance(held, ast.Subscript) else getattr(held.func, "value", held.func)
            values = known.get(ast.unparse(held), [])
            if values == [] or not all(value is not None and is_new(value) for value in values):
                yield part.lineno
        if isinstance(part, ast.Attribute) and isinstance(part.ctx, ast.Store) and function.name != "__init__":
            values = known.get(ast.unparse(part.value), [])
            made = [value for value in values if isinstance(value, ast.Call) and ast.unparse(value.func)[:1].isupper()]
            kept = any(isinstance(row, ast.If) and ast.unparse(row.test) == ast.unparse(part) + " is None" for row in function.body)
            if not kept and (values == [] or len(made) < len(values)):
                yield part.lineno


MODIFIERS = {"append", "clear", "extend", "insert", "pop", "remove", "reverse", "setdefault", "update", "sort", "add",
             "discard", "appendleft", "popleft", "extendleft", "rotate"}


def heads_of(node):
    """The names, and the names of attributes, that a loop goes over, or that a modified value is told by."""
    if isinstance(node, ast.Name):
        return {node.id}
    if isinstance(node, ast.Attribute):
        return {"." + node.attr}
    if isinstance(node, ast.Subscript):
        return heads_of(node.value)
    if isinstance(node, ast.IfExp):
        return heads_of(node.body) | heads_of(node.orelse)
    if isinstance(node, ast.BoolOp):
        return set().union(*[heads_of(part) for part in node.values])
    if isinstance(node, ast.Call):
        name = ast.unparse(node.func)
        if name in ("enumerate", "zip", "reversed", "iter"):
            return set().union(*[heads_of(part) for part in node.args])
        if isinstance(node.func, ast.Attribute) and node.func.attr in ("items", "keys", "values", "setdefault", "get"):
            return heads_of(node.func.value)
    return set()


def modified_in(loop):
    """The heads of all that the rows of a loop modify."""
    for part in (one for row in loop.body for one in ast.walk(row)):
        if isinstance(part, ast.Subscript) and isinstance(part.ctx, (ast.Store, ast.Del)):
            yield from heads_of(part.value)
        if isinstance(part, ast.Call) and isinstance(part.func, ast.Attribute) and part.func.attr in MODIFIERS:
            yield from heads_of(part.func.value)
        if isinstance(part, ast.Call) and ast.unparse(part.func) in ("heappush", "heappop"):
            yield from heads_of(part.args[0])


def same_names(function):
    """Pairs of names of which some row of a function makes one mean what the other one means."""
    for part in ast.walk(function):
        if isinstance(part, ast.Assign):
            for target in part.targets:
                pairs = [(target, part.value)]
                if isinstance(target, ast.Tuple) and isinstance(part.value, ast.Tuple):
                    pairs = list(zip(target.elts, part.value.elts))
                yield from ((one, other) for to, value in pairs for one in heads_of(to) for other in heads_of(value)
                            if isinstance(to, ast.Name))


def loops_that_change_what_they_go_over(tree):
    """The rows of loops that go over what they may change, by names that may mean the same value."""
    for function in ast.walk(tree):
        if not isinstance(function, ast.FunctionDef):
            continue
        pairs = [{one, other} for one, other in same_names(function)]
        for loop in ast.walk(function):
            if isinstance(loop, ast.For):
                over = heads_of(loop.iter)
                for _ in pairs:
                    over = over.union(*[pair for pair in pairs if pair & over])
                if over & set(modified_in(loop)):
                    yield loop.lineno


class Language(unittest.TestCase):
    def test_what_operators_and_properties_call_assigns_no_name_with_a_setter(self):
        every = [tree for path, tree in trees()]
        barred = {name for tree in every for properties, setters in properties_in(tree) for name in setters}
        self.assertIn("word", barred)
        bodies, starts = bodies_in(every)
        met = reached_from(bodies, starts)
        self.assertGreater(len(met), 60)
        for node in met:
            for name, row in assigned_in(node):
                self.assertNotIn(name, barred, (getattr(node, "name", ""), row))

    def test_operators_and_properties_change_nothing_but_what_they_created(self):
        for node in reached_from(*bodies_in([tree for path, tree in trees()])):
            if isinstance(node, ast.FunctionDef):
                self.assertEqual(list(changed_from_outside(node)), [], node.name)

    def test_the_look_at_changes_sees_what_it_should(self):
        for rows, wanted in (
            ("xs.append(1)", [2]), ("ys = []\n ys.append(1)", []), ("ys = xs\n ys[0] = 1", [3]), ("ys = list(xs)\n ys[0][1] = 1", []),
            ("self.x = 1", [2]), ("box = Box(1)\n box.x = 1", []), ("box = made(1)\n box.x = 1", [3]), ("for y in xs:\n  y.pop()", [3]),
            ("ys = {}\n ys.setdefault(1, []).append(2)", []), ("if self._x is None:\n  self._x = 1\n return self._x", []),
        ):
            tree = ast.parse("def f(self, xs):\n " + rows)
            self.assertEqual(list(changed_from_outside(tree.body[0])), wanted, rows)

    def test_the_look_at_what_is_called_sees_what_it_should(self):
        tree = ast.parse(
            "class Box:\n def __init__(self):\n  self.word = 1\n def __mul__(self, other):\n  return made(other)\n"
            " def free(self):\n  self.word = 2\n @property\n def size(self):\n  return self.inner.told()\n"
            " def told(self):\n  self.held = 3\nclass Lid(Box):\n pass\ndef made(x):\n return Lid()\n"
        )
        met = reached_from(*bodies_in([tree]))
        self.assertEqual(sorted(name for node in met for name, row in assigned_in(node)), ["held", "word"])

    def test_no_loop_changes_what_it_goes_over(self):
        for path, tree in trees():
            self.assertEqual(list(loops_that_change_what_they_go_over(tree)), [], path)

    def test_the_look_at_loops_sees_what_it_should(self):
        rows = ("def one(xs):\n begun = {{}}\n for x in xs:\n  next_ones = {{}}\n  for at in {}:\n"
                "   next_ones.setdefault(at, 1)\n  begun = next_ones\n")
        self.assertEqual(list(loops_that_change_what_they_go_over(ast.parse(rows.format("begun")))), [5])
        self.assertEqual(list(loops_that_change_what_they_go_over(ast.parse(rows.format("list(begun)")))), [])
        for row, wanted in (("for at, x in enumerate(self.rows): self.rows.append(x)", [2]), ("for x in a or b: b.pop()", [2]),
                            ("for x in rows[1]: rows[1][0] = x", [2]), ("for x in list(rows): rows.append(x)", [])):
            self.assertEqual(list(loops_that_change_what_they_go_over(ast.parse("def f():\n " + row))), wanted)

    def test_files(self):
        self.assertTrue((PACKAGE / "__init__.py").is_file())
        for path in PACKAGE.rglob("*"):
            if "__pycache__" not in path.parts:
                self.assertEqual(path.suffix, ".py", path)
        for path in files():
            lines = path.read_text(encoding="ascii").split("\n")
            self.assertLessEqual(len(lines), 399, path)
            for line in lines:
                self.assertLessEqual(len(line), 120, path)
                self.assertRegex(line, r"\A[ -~]*\Z", path)

    def test_module_level(self):
        for path, tree in trees():
            names = []
            for at, node in enumerate(tree.body):
                if at == 0 and isinstance(node, ast.Expr):
                    self.assertIsInstance(node.value.value, str, path)
                elif isinstance(node, ast.ImportFrom):
                    names.extend(alias.name for alias in node.names)
                else:
                    self.assertIsInstance(node, (ast.FunctionDef, ast.ClassDef, ast.Assign), path)
                    calls = [part for part in ast.walk(node) if isinstance(part, ast.Call)]
                    self.assertTrue(calls == [] or not isinstance(node, ast.Assign), (path, node.lineno))
            names.extend(defined_in(tree))
            self.assertEqual(len(names), len(set(names)), path)

    def test_imports(self):
        defined = {"sevenball." + path.stem: defined_in(tree) for path, tree in trees()}
        for path, tree in trees():
            for node in ast.walk(tree):
                self.assertNotIsInstance(node, ast.Import, path)
                if isinstance(node, ast.ImportFrom):
                    known = LIBRARY[node.module] if node.module in LIBRARY else defined[node.module]
                    for alias in node.names:
                        self.assertIn(alias.name, known, path)
                        self.assertIsNone(alias.asname, path)

    def test_no_file_imports_what_imports_it(self):
        after = {
            path.stem: [node.module.split(".")[1] for node in tree.body
                        if isinstance(node, ast.ImportFrom) and node.module not in LIBRARY]
            for path, tree in trees()
        }
        while after:
            free = [name for name, needed in after.items() if not any(other in after for other in needed)]
            self.assertTrue(free, after)
            for name in free:
                del after[name]

    def test_functions(self):
        for path, tree in trees():
            for node in ast.walk(tree):
                if isinstance(node, ast.FunctionDef):
                    self.assertLessEqual(node.end_lineno - node.lineno + 1, 40, (path, node.name))
                    self.assertTrue(not node.name.startswith("__") or node.name in OPERATORS, (path, node.name))
                    for mark in node.decorator_list:
                        known = ("property", "staticmethod", "classmethod", node.name + ".setter")
                        self.assertIn(ast.unparse(mark), known, path)
                if isinstance(node, ast.ClassDef):
                    self.assertEqual(node.decorator_list, [], path)

    def test_no_property_without_a_setter_is_assigned(self):
        lacking = set()
        for path, tree in trees():
            for properties, setters in properties_in(tree):
                self.assertLessEqual(setters, properties, path)
                lacking |= properties - setters
        for path, tree in trees():
            for name, row in assigned_in(tree):
                self.assertNotIn(name, lacking, (path, row))

    def test_the_look_at_properties_sees_what_it_should(self):
        tree = ast.parse(
            "class Box:\n @property\n def many(self):\n  return 1\n"
            " @property\n def size(self):\n  return 2\n @size.setter\n def size(self, value):\n  pass\n"
        )
        self.assertEqual(list(properties_in(tree)), [({"many", "size"}, {"size"})])
        rows = "a.b = 1\nc, (d.e, *f.g) = h\ni.j += 1\nk.m[0] = n.o\np.q: int = 1\nfor r.s in t.u: pass\ndel v.w\nsetattr(x, 'y', 1)"
        self.assertEqual(sorted(name for name, row in assigned_in(ast.parse(rows))),
                         ["b", "e", "g", "j", "q", "s", "w", "y"])

    def test_local_names(self):
        for path, tree in trees():
            barred = {alias.name for node in tree.body if isinstance(node, ast.ImportFrom) for alias in node.names}
            barred |= {node.name for node in tree.body if isinstance(node, ast.ClassDef)}
            for node in ast.walk(tree):
                names = []
                if isinstance(node, ast.FunctionDef):
                    names = [node.name for one in ast.walk(node) if one is not node and isinstance(one, ast.FunctionDef)]
                    names += [part.arg for part in node.args.args]
                if isinstance(node, ast.Name) and isinstance(node.ctx, ast.Store):
                    names = [node.id]
                for name in names:
                    self.assertNotIn(name, barred, path)
                    self.assertFalse(hasattr(builtins, name), (path, name))

    def test_words_and_statements(self):
        barred = (ast.AsyncFunctionDef, ast.Await, ast.Div)
        for path, tree in trees():
            for node in ast.walk(tree):
                self.assertNotIsInstance(node, barred, path)
                if isinstance(node, ast.Name) and hasattr(builtins, node.id):
                    self.assertIn(node.id, BUILTINS, path)
                if isinstance(node, ast.Name):
                    self.assertIsNone(BARRED.fullmatch(node.id), (path, node.id))
                if isinstance(node, ast.Constant):
                    self.assertNotIsInstance(node.value, (float, complex, bytes), path)


if __name__ == "__main__":
    unittest.main()
