"""Runs the examples of the interface, in their order, with the names that earlier ones made."""

import importlib
import pathlib
import unittest

from sevenball.errors import BallError

FOLDER = pathlib.Path(__file__).parent / "examples"
MODULES = (
    "errors", "checks", "papers", "words", "points", "shells", "quarters", "turns", "machines", "painted", "made", "pieces",
    "tables", "look_tables", "tails", "look_tails", "balls", "cuts", "look_cuts", "crossings",
    "nets", "lots", "lot_cuts", "texts", "desk",
)
EXAMPLES = (
    "checks", "words", "points", "shells", "quarters", "turns", "machines", "painted", "made", "pieces",
    "tables", "look_tables", "tails", "look_tails", "balls", "cuts", "look_cuts", "crossings",
    "nets", "lots", "lot_cuts", "texts", "desk",
)


def all_names():
    names = {}
    for module in MODULES:
        names.update(vars(importlib.import_module("sevenball." + module)))
    return names


def own_names(module):
    """What a module defines itself: its examples mean this, whatever earlier examples called by these names."""
    found = importlib.import_module("sevenball." + module)
    return {name: value for name, value in vars(found).items() if getattr(value, "__module__", None) == found.__name__}


def pairs_in(text):
    """Each line that is run, and the line that tells its answer, if there is one."""
    pairs = []
    for line in text.splitlines():
        if line.startswith(">>> "):
            pairs.append((line[4:], None))
        else:
            pairs[-1] = (pairs[-1][0], line)
    return pairs


def told_error(error):
    fields = ", ".join([repr(value) for value in vars(error).values()])
    return f"raises {type(error).__name__}({fields})"


def outcome(line, names):
    try:
        code = compile(line, "<example>", "eval")
    except SyntaxError:
        exec(line, names)
        return None
    try:
        answer = eval(code, names)
    except BallError as error:
        return told_error(error)
    return repr(answer)


class Examples(unittest.TestCase):
    def test_all(self):
        names = all_names()
        many = 0
        for module in EXAMPLES:
            names.update(own_names(module))
            for line, wanted in pairs_in((FOLDER / f"{module}.txt").read_text()):
                with self.subTest(module=module, line=line):
                    told = outcome(line, names)
                    # Of some errors the class alone is told.
                    if wanted is not None and wanted.startswith("raises ") and "(" not in wanted:
                        told = told.split("(")[0]
                    self.assertEqual(told, wanted)
                many += 1
        self.assertEqual(many, 224)


if __name__ == "__main__":
    unittest.main()
