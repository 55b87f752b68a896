"""The rules of the subset that a look at the files can tell."""

import ast
import builtins
import pathlib
import re
import unittest

PACKAGE = pathlib.Path(__file__).parent.parent / "sevenball"
LIBRARY = {
    "heapq": {"heappush", "heappop", "heapify", "heapreplace", "heappushpop"},
    "math": {"gcd", "lcm", "isqrt", "comb", "perm", "factorial"},
    "itertools": {"chain", "accumulate", "pairwise", "islice", "zip_longest"},
    "collections": {"defaultdict", "deque"},
}
BUILTINS = set(
    "len range enumerate zip min max sum abs sorted reversed int str bool list tuple dict set isinstance ord repr any"
    " all divmod pow iter next map ValueError TypeError KeyError IndexError StopIteration ZeroDivisionError"
    " NotImplemented AttributeError property staticmethod classmethod super".split()
)
BARRED = re.compile(
    r"\b(type|typing|typing_extensions|enum|Enum|Generic|Protocol|ABC|namedtuple|NamedTuple|register|mro|elements|open"
    r"|input|law|eval|exec|globals|locals|vars|dir|id|help|exit|quit|compile)\b"
)
OPERATORS = {
    "__lt__", "__le__", "__gt__", "__ge__", "__mul__", "__invert__", "__neg__", "__bool__", "__contains__",
    "__getitem__", "__and__", "__or__", "__sub__", "__xor__", "__init__", "__eq__", "__str__", "__len__", "__iter__",
    "__call__",
}


def files():
    return sorted(PACKAGE.rglob("*.py"))


def trees():
    return [(path, ast.parse(path.read_text())) for path in files()]


def defined_in(tree):
    names = [node.name for node in tree.body if isinstance(node, (ast.FunctionDef, ast.ClassDef))]
    return names + [node.targets[0].id for node in tree.body if isinstance(node, ast.Assign)]


def properties_in(tree):
    """For each class the names of its properties, and those of them that have a setter."""
    for shape in ast.walk(tree):
        if isinstance(shape, ast.ClassDef):
            marks = [(node.name, ast.unparse(mark)) for node in shape.body if isinstance(node, ast.FunctionDef)
                     for mark in node.decorator_list]
            yield ({name for name, mark in marks if mark == "property"},
                   {name for name, mark in marks if mark == name + ".setter"})


def assigned_in(tree):
    """The names of all attributes that some row assigns or deletes, also by setattr, with these rows."""
    for node in ast.walk(tree):
        if isinstance(node, ast.Attribute) and isinstance(node.ctx, (ast.Store, ast.Del)):
            yield node.attr, node.lineno
        if isinstance(node, ast.Call) and ast.unparse(node.func) in ("setattr", "delattr"):
            yield node.args[1].value, node.lineno


class Language(unittest.TestCase):
    def test_files(self):
        self.assertTrue((PACKAGE / "__init__.py").is_file())
        for path in PACKAGE.rglob("*"):
            if "__pycache__" not in path.parts:
                self.assertEqual(path.suffix, ".py", path)
        for path in files():
            lines = path.read_text(encoding="ascii").split("\n")
            self.assertLessEqual(len(lines), 399, path)
            for line in lines:
                self.assertLessEqual(len(line), 120, path)
                self.assertRegex(line, r"\A[ -~]*\Z", path)

    def test_module_level(self):
        for path, tree in trees():
            names = []
            for at, node in enumerate(tree.body):
                if at == 0 and isinstance(node, ast.Expr):
                    self.assertIsInstance(node.value.value, str, path)
                elif isinstance(node, ast.ImportFrom):
                    names.extend(alias.name for alias in node.names)
                else:
                    self.assertIsInstance(node, (ast.FunctionDef, ast.ClassDef, ast.Assign), path)
            names.extend(defined_in(tree))
            self.assertEqual(len(names), len(set(names)), path)

    def test_imports(self):
        defined = {"sevenball." + path.stem: defined_in(tree) for path, tree in trees()}
        for path, tree in trees():
            for node in ast.walk(tree):
                self.assertNotIsInstance(node, ast.Import, path)
                if isinstance(node, ast.ImportFrom):
                    known = LIBRARY[node.module] if node.module in LIBRARY else defined[node.module]
                    for alias in node.names:
                        self.assertIn(alias.name, known, path)
                        self.assertIsNone(alias.asname, path)

    def test_no_file_imports_what_imports_it(self):
        after = {
            path.stem: [node.module.split(".")[1] for node in tree.body
                        if isinstance(node, ast.ImportFrom) and node.module not in LIBRARY]
            for path, tree in trees()
        }
        while after:
            free = [name for name, needed in after.items() if not any(other in after for other in needed)]
            self.assertTrue(free, after)
            for name in free:
                del after[name]

    def test_functions(self):
        for path, tree in trees():
            for node in ast.walk(tree):
                if isinstance(node, ast.FunctionDef):
                    self.assertLessEqual(node.end_lineno - node.lineno + 1, 40, (path, node.name))
                    self.assertTrue(not node.name.startswith("__") or node.name in OPERATORS, (path, node.name))
                    for mark in node.decorator_list:
                        known = ("property", "staticmethod", "classmethod", node.name + ".setter")
                        self.assertIn(ast.unparse(mark), known, path)
                if isinstance(node, ast.ClassDef):
                    self.assertEqual(node.decorator_list, [], path)

    def test_no_property_without_a_setter_is_assigned(self):
        lacking = set()
        for path, tree in trees():
            for properties, setters in properties_in(tree):
                self.assertLessEqual(setters, properties, path)
                lacking |= properties - setters
        for path, tree in trees():
            for name, row in assigned_in(tree):
                self.assertNotIn(name, lacking, (path, row))

    def test_the_look_at_properties_sees_what_it_should(self):
        tree = ast.parse(
            "class Box:\n @property\n def many(self):\n  return 1\n"
            " @property\n def size(self):\n  return 2\n @size.setter\n def size(self, value):\n  pass\n"
        )
        self.assertEqual(list(properties_in(tree)), [({"many", "size"}, {"size"})])
        rows = "a.b = 1\nc, (d.e, *f.g) = h\ni.j += 1\nk.m[0] = n.o\np.q: int = 1\nfor r.s in t.u: pass\ndel v.w\nsetattr(x, 'y', 1)"
        self.assertEqual(sorted(name for name, row in assigned_in(ast.parse(rows))),
                         ["b", "e", "g", "j", "q", "s", "w", "y"])

    def test_local_names(self):
        for path, tree in trees():
            barred = {alias.name for node in tree.body if isinstance(node, ast.ImportFrom) for alias in node.names}
            barred |= {node.name for node in tree.body if isinstance(node, ast.ClassDef)}
            for node in ast.walk(tree):
                names = []
                if isinstance(node, ast.FunctionDef):
                    names = [node.name for one in ast.walk(node) if one is not node and isinstance(one, ast.FunctionDef)]
                    names += [part.arg for part in node.args.args]
                if isinstance(node, ast.Name) and isinstance(node.ctx, ast.Store):
                    names = [node.id]
                for name in names:
                    self.assertNotIn(name, barred, path)
                    self.assertFalse(hasattr(builtins, name), (path, name))

    def test_words_and_statements(self):
        barred = (ast.AsyncFunctionDef, ast.Await, ast.Div)
        for path, tree in trees():
            for node in ast.walk(tree):
                self.assertNotIsInstance(node, barred, path)
                if isinstance(node, ast.Name) and hasattr(builtins, node.id):
                    self.assertIn(node.id, BUILTINS, path)
                if isinstance(node, ast.Name):
                    self.assertIsNone(BARRED.fullmatch(node.id), (path, node.id))
                if isinstance(node, ast.Constant):
                    self.assertNotIsInstance(node.value, (float, complex, bytes), path)


if __name__ == "__main__":
    unittest.main()
