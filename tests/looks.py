"""What the tests of the rules look at: the files of the package, and what stands in them."""

import ast
import pathlib

PACKAGE = pathlib.Path(__file__).parent.parent / "sevenball"
MODIFIERS = {"append", "clear", "extend", "insert", "pop", "remove", "reverse", "setdefault", "update", "sort", "add",
             "discard", "appendleft", "popleft", "extendleft", "rotate"}


def files():
    return sorted(PACKAGE.rglob("*.py"))


def trees():
    return [(path, ast.parse(path.read_text())) for path in files()]


def defined_in(tree):
    names = [node.name for node in tree.body if isinstance(node, (ast.FunctionDef, ast.ClassDef))]
    return names + [node.targets[0].id for node in tree.body if isinstance(node, ast.Assign)]


def properties_in(tree):
    """For each class the names of its properties, and those of them that have a setter."""
    for shape in ast.walk(tree):
        if isinstance(shape, ast.ClassDef):
            marks = [(node.name, ast.unparse(mark)) for node in shape.body if isinstance(node, ast.FunctionDef)
                     for mark in node.decorator_list]
            yield ({name for name, mark in marks if mark == "property"},
                   {name for name, mark in marks if mark == name + ".setter"})


def assigned_in(tree):
    """The names of all attributes that some row assigns or deletes, also by setattr, with these rows."""
    for node in ast.walk(tree):
        if isinstance(node, ast.Attribute) and isinstance(node.ctx, (ast.Store, ast.Del)):
            yield node.attr, node.lineno
        if isinstance(node, ast.Call) and ast.unparse(node.func) in ("setattr", "delattr"):
            yield node.args[1].value, node.lineno
