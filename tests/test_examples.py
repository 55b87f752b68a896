"""Runs the examples of the interface, in their order, with the names that earlier ones made."""

import importlib
import pathlib
import unittest

from sevenball.errors import BallError

FOLDER = pathlib.Path(__file__).parent / "examples"
MODULES = (
    "errors", "checks", "papers", "words", "points", "shells", "quarters", "turns", "machines", "painted", "made", "pieces",
    "tables", "look_tables", "tails", "look_tails",
)
EXAMPLES = (
    "checks", "words", "points", "shells", "quarters", "turns", "machines", "painted", "made", "pieces",
    "tables", "look_tables", "tails", "look_tails",
)


def all_names():
    names = {}
    for module in MODULES:
        names.update(vars(importlib.import_module("sevenball." + module)))
    return names


def pairs_in(text):
    """Each line that is run, and the line that tells its answer, if there is one."""
    pairs = []
    for line in text.splitlines():
        if line.startswith(">>> "):
            pairs.append((line[4:], None))
        else:
            pairs[-1] = (pairs[-1][0], line)
    return pairs


def told_error(error):
    fields = ", ".join([repr(value) for value in vars(error).values()])
    return f"raises {type(error).__name__}({fields})"


def outcome(line, names):
    try:
        code = compile(line, "<example>", "eval")
    except SyntaxError:
        exec(line, names)
        return None
    try:
        answer = eval(code, names)
    except BallError as error:
        return told_error(error)
    return repr(answer)


class Examples(unittest.TestCase):
    def test_all(self):
        names = all_names()
        many = 0
        for module in EXAMPLES:
            for line, wanted in pairs_in((FOLDER / f"{module}.txt").read_text()):
                with self.subTest(module=module, line=line):
                    self.assertEqual(outcome(line, names), wanted)
                many += 1
        self.assertEqual(many, 122)


if __name__ == "__main__":
    unittest.main()
