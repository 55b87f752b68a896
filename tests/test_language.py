"""The rules of the subset that a look at the files can tell."""

import ast
import builtins
import io
import re
import tokenize
import unittest

from tests.looks import MODIFIERS, PACKAGE, assigned_in, defined_in, files, properties_in, trees

LIBRARY = {
    "heapq": {"heappush", "heappop", "heapify", "heapreplace", "heappushpop"},
    "math": {"gcd", "lcm", "isqrt", "comb", "perm", "factorial"},
    "itertools": {"chain", "accumulate", "pairwise", "islice", "zip_longest"},
    "collections": {"defaultdict", "deque"},
}
BUILTINS = set(
    "len range enumerate zip min max sum abs sorted reversed int str bool list tuple dict set isinstance ord repr any"
    " all divmod pow iter next map ValueError TypeError KeyError IndexError StopIteration ZeroDivisionError"
    " NotImplemented AttributeError property staticmethod classmethod super".split()
)
# Words that stand nowhere in a file but in remarks and docstrings; the last three not within longer words either.
BARRED = re.compile(
    r"\b(typing|typing_extensions|enum|Enum|IntEnum|StrEnum|Flag|IntFlag|Generic|Protocol|ABC|ABCMeta|namedtuple"
    r"|NamedTuple|TypedDict|TYPE_CHECKING|abstractmethod)\b|dataclass|overload|contextmanager"
)
# In a package with `__getitem__`: nowhere, in remarks neither.
BARRED_EVERYWHERE = re.compile(r"\(type\)|\bMeta\b|metaclass=")
# Names of nothing, and names that attributes alone may have.
NAMES_OF_NOTHING = re.compile(
    r"register|mro|elements|open|input|law|version_info|with_traceback|add_note|(f|tb|co|gi|cr|ag)_[a-z]+"
)
NAMES_OF_ATTRIBUTES = re.compile(
    r"attrgetter|breakpoint|builtins|compile|copyright|credits|delattr|dir|eval|exec|exit|gc|getattr|globals|hasattr|help"
    r"|id|importlib|license|locals|methodcaller|os|quit|setattr|super|type|vars|sys|__name__"
)
OPERATORS = {
    "__lt__", "__le__", "__gt__", "__ge__", "__mul__", "__invert__", "__neg__", "__bool__", "__contains__",
    "__getitem__", "__and__", "__or__", "__sub__", "__xor__", "__init__", "__eq__", "__str__", "__len__", "__iter__",
    "__call__",
}


def heads_of(node):
    """The names, and the names of attributes, that a loop goes over, or that a modified value is told by."""
    if isinstance(node, ast.Name):
        return {node.id}
    if isinstance(node, ast.Attribute):
        return {"." + node.attr}
    if isinstance(node, ast.Subscript):
        return heads_of(node.value)
    if isinstance(node, ast.IfExp):
        return heads_of(node.body) | heads_of(node.orelse)
    if isinstance(node, ast.BoolOp):
        return set().union(*[heads_of(part) for part in node.values])
    if isinstance(node, ast.Call):
        name = ast.unparse(node.func)
        if name in ("enumerate", "zip", "reversed", "iter"):
            return set().union(*[heads_of(part) for part in node.args])
        if isinstance(node.func, ast.Attribute) and node.func.attr in ("items", "keys", "values", "setdefault", "get"):
            return heads_of(node.func.value)
    return set()


def modified_in(loop):
    """The heads of all that the rows of a loop modify."""
    for part in (one for row in loop.body for one in ast.walk(row)):
        if isinstance(part, ast.Subscript) and isinstance(part.ctx, (ast.Store, ast.Del)):
            yield from heads_of(part.value)
        if isinstance(part, ast.Call) and isinstance(part.func, ast.Attribute) and part.func.attr in MODIFIERS:
            yield from heads_of(part.func.value)
        if isinstance(part, ast.Call) and ast.unparse(part.func) in ("heappush", "heappop"):
            yield from heads_of(part.args[0])


def same_names(function):
    """Pairs of names of which some row of a function makes one mean what the other one means."""
    for part in ast.walk(function):
        if isinstance(part, ast.Assign):
            for target in part.targets:
                pairs = [(target, part.value)]
                if isinstance(target, ast.Tuple) and isinstance(part.value, ast.Tuple):
                    pairs = list(zip(target.elts, part.value.elts))
                yield from ((one, other) for to, value in pairs for one in heads_of(to) for other in heads_of(value)
                            if isinstance(to, ast.Name))


def loops_that_change_what_they_go_over(tree):
    """The rows of loops that go over what they may change, by names that may mean the same value."""
    for function in ast.walk(tree):
        if not isinstance(function, ast.FunctionDef):
            continue
        pairs = [{one, other} for one, other in same_names(function)]
        for loop in ast.walk(function):
            if isinstance(loop, ast.For):
                over = heads_of(loop.iter)
                for _ in pairs:
                    over = over.union(*[pair for pair in pairs if pair & over])
                if over & set(modified_in(loop)):
                    yield loop.lineno


def without_remarks(text):
    """The text of a file with blanks in the place of its remarks and docstrings."""
    spans = [(token.start, token.end) for token in tokenize.generate_tokens(io.StringIO(text).readline)
             if token.type == tokenize.COMMENT]
    # Rows have ASCII signs alone, so the offsets of both are counted alike.
    for node in ast.walk(ast.parse(text)):
        if isinstance(node, (ast.Module, ast.ClassDef, ast.FunctionDef)) and ast.get_docstring(node) is not None:
            told = node.body[0].value
            spans.append(((told.lineno, told.col_offset), (told.end_lineno, told.end_col_offset)))
    lines = text.split("\n")
    for (row, first), (end, last) in spans:
        for at in range(row, end + 1):
            line = lines[at - 1]
            begin, stop = first if at == row else 0, last if at == end else len(line)
            lines[at - 1] = line[:begin] + " " * (stop - begin) + line[stop:]
    return "\n".join(lines)


def names_in(tree):
    """All names that stand in a file, each with whether an attribute or a keyword has it."""
    for node in ast.walk(tree):
        if isinstance(node, ast.Name):
            yield node.id, False
        elif isinstance(node, ast.arg):
            yield node.arg, False
        elif isinstance(node, ast.alias):
            yield from ((name, False) for name in (node.name, node.asname or node.name))
        elif isinstance(node, ast.Attribute):
            yield node.attr, True
        elif isinstance(node, ast.keyword) and node.arg is not None:
            yield node.arg, True
        elif isinstance(getattr(node, "name", None), str):
            yield node.name, False


def barred_in(text):
    """The words and the names in the text of a file that stand in none."""
    found = [match.group() for match in BARRED.finditer(without_remarks(text))]
    found.extend(match.group() for match in BARRED_EVERYWHERE.finditer(text))
    for name, is_attribute in names_in(ast.parse(text)):
        if NAMES_OF_NOTHING.fullmatch(name) or name == "type":
            found.append(name)
        elif NAMES_OF_ATTRIBUTES.fullmatch(name) and not is_attribute:
            found.append(name)
    return found


class Language(unittest.TestCase):
    def test_no_loop_changes_what_it_goes_over(self):
        for path, tree in trees():
            self.assertEqual(list(loops_that_change_what_they_go_over(tree)), [], path)

    def test_the_look_at_loops_sees_what_it_should(self):
        rows = ("def one(xs):\n begun = {{}}\n for x in xs:\n  next_ones = {{}}\n  for at in {}:\n"
                "   next_ones.setdefault(at, 1)\n  begun = next_ones\n")
        self.assertEqual(list(loops_that_change_what_they_go_over(ast.parse(rows.format("begun")))), [5])
        self.assertEqual(list(loops_that_change_what_they_go_over(ast.parse(rows.format("list(begun)")))), [])
        for row, wanted in (("for at, x in enumerate(self.rows): self.rows.append(x)", [2]), ("for x in a or b: b.pop()", [2]),
                            ("for x in rows[1]: rows[1][0] = x", [2]), ("for x in list(rows): rows.append(x)", [])):
            self.assertEqual(list(loops_that_change_what_they_go_over(ast.parse("def f():\n " + row))), wanted)

    def test_files(self):
        self.assertTrue((PACKAGE / "__init__.py").is_file())
        for path in PACKAGE.rglob("*"):
            if "__pycache__" not in path.parts:
                self.assertEqual(path.suffix, ".py", path)
        for path in files():
            lines = path.read_text(encoding="ascii").split("\n")
            self.assertLessEqual(len(lines), 399, path)
            for line in lines:
                self.assertLessEqual(len(line), 120, path)
                self.assertRegex(line, r"\A[ -~]*\Z", path)

    def test_module_level(self):
        for path, tree in trees():
            names = []
            for at, node in enumerate(tree.body):
                if at == 0 and isinstance(node, ast.Expr):
                    self.assertIsInstance(node.value.value, str, path)
                elif isinstance(node, ast.ImportFrom):
                    names.extend(alias.name for alias in node.names)
                else:
                    self.assertIsInstance(node, (ast.FunctionDef, ast.ClassDef, ast.Assign), path)
                    calls = [part for part in ast.walk(node) if isinstance(part, ast.Call)]
                    self.assertTrue(calls == [] or not isinstance(node, ast.Assign), (path, node.lineno))
            names.extend(defined_in(tree))
            self.assertEqual(len(names), len(set(names)), path)

    def test_imports(self):
        defined = {"sevenball." + path.stem: defined_in(tree) for path, tree in trees()}
        for path, tree in trees():
            for node in ast.walk(tree):
                self.assertNotIsInstance(node, ast.Import, path)
                if isinstance(node, ast.ImportFrom):
                    known = LIBRARY[node.module] if node.module in LIBRARY else defined[node.module]
                    for alias in node.names:
                        self.assertIn(alias.name, known, path)
                        self.assertIsNone(alias.asname, path)

    def test_no_file_imports_what_imports_it(self):
        after = {
            path.stem: [node.module.split(".")[1] for node in tree.body
                        if isinstance(node, ast.ImportFrom) and node.module not in LIBRARY]
            for path, tree in trees()
        }
        while after:
            free = [name for name, needed in after.items() if not any(other in after for other in needed)]
            self.assertTrue(free, after)
            for name in free:
                del after[name]

    def test_functions(self):
        for path, tree in trees():
            for node in ast.walk(tree):
                if isinstance(node, ast.FunctionDef):
                    self.assertLessEqual(node.end_lineno - node.lineno + 1, 40, (path, node.name))
                    self.assertTrue(not node.name.startswith("__") or node.name in OPERATORS, (path, node.name))
                    for mark in node.decorator_list:
                        known = ("property", "staticmethod", "classmethod", node.name + ".setter")
                        self.assertIn(ast.unparse(mark), known, path)
                if isinstance(node, ast.ClassDef):
                    self.assertEqual(node.decorator_list, [], path)

    def test_no_property_without_a_setter_is_assigned(self):
        lacking = set()
        for path, tree in trees():
            for properties, setters in properties_in(tree):
                self.assertLessEqual(setters, properties, path)
                lacking |= properties - setters
        for path, tree in trees():
            for name, row in assigned_in(tree):
                self.assertNotIn(name, lacking, (path, row))

    def test_the_look_at_properties_sees_what_it_should(self):
        tree = ast.parse(
            "class Box:\n @property\n def many(self):\n  return 1\n"
            " @property\n def size(self):\n  return 2\n @size.setter\n def size(self, value):\n  pass\n"
        )
        self.assertEqual(list(properties_in(tree)), [({"many", "size"}, {"size"})])
        rows = "a.b = 1\nc, (d.e, *f.g) = h\ni.j += 1\nk.m[0] = n.o\np.q: int = 1\nfor r.s in t.u: pass\ndel v.w\nsetattr(x, 'y', 1)"
        self.assertEqual(sorted(name for name, row in assigned_in(ast.parse(rows))),
                         ["b", "e", "g", "j", "q", "s", "w", "y"])

    def test_local_names(self):
        for path, tree in trees():
            barred = {alias.name for node in tree.body if isinstance(node, ast.ImportFrom) for alias in node.names}
            barred |= {node.name for node in tree.body if isinstance(node, ast.ClassDef)}
            for node in ast.walk(tree):
                names = []
                if isinstance(node, ast.FunctionDef):
                    names = [node.name for one in ast.walk(node) if one is not node and isinstance(one, ast.FunctionDef)]
                    names += [part.arg for part in node.args.args]
                if isinstance(node, ast.Name) and isinstance(node.ctx, ast.Store):
                    names = [node.id]
                for name in names:
                    self.assertNotIn(name, barred, path)
                    self.assertFalse(hasattr(builtins, name), (path, name))

    def test_words_that_stand_nowhere(self):
        for path in files():
            self.assertEqual(barred_in(path.read_text()), [], path)

    def test_the_look_at_words_sees_what_it_should(self):
        for text, wanted in (
            ('for k in "ABC":\n pass', ["ABC"]), ('k = "ABCD"\nj = "A B C"', []), ('"""ABC."""\nk = 1  # ABC', []),
            ('def f():\n """Enum\n\n ABC."""\n return "an enum"', ["enum"]), ("def f(x):\n '''ABC.'''\n 'ABC'", ["ABC"]),
            ('class C:\n """ABC"""\n k = "# ABC"', ["ABC"]), ("k = f'{n} ABC'", ["ABC"]), ("k = 'a.ABC'", ["ABC"]),
            ("def ABC():\n pass", ["ABC"]), ("k = 'overloaded'", ["overload"]), ("k = 'type'  # types", []),
            ("b.type = 1", ["type"]), ("b.id = b.vars", []), ("id = 1", ["id"]), ("def f(dir):\n pass", ["dir"]),
            ("b.open()", ["open"]), ("f(law=1)", ["law"]), ("b.f_back", ["f_back"]), ("k = 'open'", []),
            ("k = 1  # (type)", ["(type)"]), ("k = 'Meta'", ["Meta"]), ("k = 'Metal'", []),
            ("try:\n pass\nexcept E as os:\n pass", ["os"]), ("def help():\n pass", ["help"]),
            ("class C:\n def mro(self):\n  pass", ["mro"]), ("from a import quit", ["quit", "quit"]),
        ):
            self.assertEqual(barred_in(text), wanted, text)

    def test_words_and_statements(self):
        barred = (ast.AsyncFunctionDef, ast.Await, ast.Div)
        for path, tree in trees():
            for node in ast.walk(tree):
                self.assertNotIsInstance(node, barred, path)
                if isinstance(node, ast.Name) and hasattr(builtins, node.id):
                    self.assertIn(node.id, BUILTINS, path)
                if isinstance(node, ast.Constant):
                    self.assertNotIsInstance(node.value, (float, complex, bytes), path)


if __name__ == "__main__":
    unittest.main()
