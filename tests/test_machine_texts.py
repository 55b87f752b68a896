"""The texts of machines and of painted machines."""

import unittest

from sevenball.errors import BadText, TooMany
from sevenball.machines import Machine
from sevenball.made import cone, up_to
from sevenball.painted import Painted
from sevenball.standings import rows_in
from sevenball.words import Word
from tests.readings import some_machines, some_painted, told_rows
from tests.values import EVEN, NOT_STRINGS, Case

# For each class the marks that are right, and some that are not.
LITS = (["+", "-"], ["", "x", "++", "0", "1", "/", "True", "+\n", "\u2212"])
COLOURS = (["0", "7", "200"], ["", "x", "+", "-", "201", "-1", "-0", "00", "01", "1000", "0.", "\u0661", "/"])
KINDS = ((Machine, *LITS), (Painted, *COLOURS))
BENT_NUMBERS = ("", "x", "/", "+", "-", "+1", "-1", "-0", "00", "01", "10000", "12345", "1_0", "\u0661", "1\n", "1.0", "\t1")


class Texts(Case):
    def test_there_and_back(self):
        for shape, values in ((Machine, some_machines()), (Painted, some_painted())):
            for value in values:
                again = shape.read(text=str(value))
                self.assertIs(type(again), shape)
                self.assertEqual(again.rows, value.rows)
                self.assertEqual(again.standings, value.standings)
                self.assertEqual(str(again), str(value))
        self.assertEqual(str(EVEN), "+ 1 1 1 1 1 1 1 1 / - 0 0 0 0 0 0 0 0")
        self.assertEqual(str(Painted([(2, [0] * 8)])), "2 0 0 0 0 0 0 0 0")
        self.assertEqual(Machine.read("- 0 0 0 0 0 0 0 0").rows, ((False, (0,) * 8),))
        self.assertEqual(Painted.read("200 0 0 0 0 0 0 0 0").rows, ((200, (0,) * 8),))

    def test_what_is_no_string(self):
        for shape, _, _ in KINDS:
            for value in NOT_STRINGS:
                self.refuses(BadText(0), shape.read, value)

    def test_bent_items(self):
        for shape, marks, bent_marks in KINDS:
            items = f"{marks[0]} 1 0 2 1 0 0 1 2 / {marks[1]} 0 0 0 1 1 1 2 2 / {marks[-1]} 2 2 0 0 1 1 0 2".split(" ")
            self.assertEqual(" ".join(items), str(shape.read(" ".join(items))))
            for at, item in enumerate(items):
                place = at % 10
                bent = {0: bent_marks, 9: ("", "x", "0", "//", "+")}.get(place, BENT_NUMBERS)
                for other in bent:
                    self.refuses(BadText(at), shape.read, " ".join(items[:at] + [other] + items[at + 1:]))

    def test_items_put_in_and_left_out(self):
        for shape, marks, _ in KINDS:
            items = f"{marks[0]} 1 0 1 1 0 0 1 1 / {marks[1]} 0 0 0 1 1 1 0 1".split(" ")
            for at in range(len(items) + 1):
                # An item more: it cannot stand, or the first one behind it that has lost its place.
                text = " ".join(items[:at] + ["x"] + items[at:])
                self.refuses(BadText(at), shape.read, text)
                if at not in (9, 19):
                    self.refuses(BadText(at), shape.read, " ".join(items[:at]))
            self.refuses(BadText(19), shape.read, " ".join(items + ["0"]))
            self.refuses(BadText(20), shape.read, " ".join(items + ["/"]))
            self.refuses(BadText(20), shape.read, " ".join(items + ["/", ""]))
            self.refuses(BadText(0), shape.read, " " + " ".join(items))
            self.refuses(BadText(9), shape.read, " ".join(items[:9] + [""] + items[9:]))
            self.refuses(BadText(10), shape.read, " ".join(items[:10] + items[9:]))
            self.refuses(BadText(8), shape.read, " ".join(items[:3] + items[4:]))
            self.refuses(BadText(18), shape.read, " ".join(items[:13] + items[14:]))
            self.refuses(BadText(9), shape.read, " ".join(items[:3] + ["0"] + items[3:]))

    def test_numbers_of_no_standing(self):
        for shape, marks, _ in KINDS:
            for at in (1, 5, 8, 11, 18):
                for number in ("2", "3", "9999"):
                    items = f"{marks[0]} 1 0 1 1 0 0 1 1 / {marks[1]} 0 0 0 1 1 1 0 1".split(" ")
                    items[at] = number
                    self.refuses(BadText(18), shape.read, " ".join(items))
                    self.refuses(BadText(at), shape.read, " ".join(items).replace(number, "10000"))
                    # A wrong item comes first, wherever the number stands.
                    self.refuses(BadText(18), shape.read, " ".join(items[:18] + ["x"]))
                    self.refuses(BadText(20), shape.read, " ".join(items + ["/"]))

    def test_the_most_standings(self):
        for shape, marks, _ in KINDS:
            one = f"{marks[1]} 0 1 3 0 3999 0 0 0"
            text = " / ".join([one] * 4000)
            made = self.comes_soon(lambda: shape.read(text))
            self.assertEqual(made.standings, 4000)
            self.assertEqual(self.comes_soon(lambda: str(made)), text)
            self.refuses(TooMany("standings", 4000), shape.read, text + " / " + one)
            self.refuses(TooMany("standings", 4000), shape.read, text + " / " + one.replace("3999", "9999"))
            self.refuses(TooMany("standings", 4000), shape.read, " / ".join([one] * 5000))
            self.refuses(BadText(40008), shape.read, text + " / " + one[:-1] + "x")
            self.refuses(BadText(40008), shape.read, text + " / " + one[:-2])
            self.refuses(BadText(40000), shape.read, text + " /")
            self.refuses(BadText(39998), shape.read, text[:-1] + "4000")
            self.refuses(BadText(1), shape.read, text.replace(" 0", " 10000", 1))
            self.refuses(BadText(5), shape.read, text.replace("3999", "39999", 1) + " / x")

    def test_texts_behind_other_items(self):
        marks = {"+": True, "-": False}
        items = ("x : " + str(EVEN)).split(" ")
        self.assertEqual(rows_in(items, 2, marks), EVEN.rows)
        self.refuses(BadText(1), rows_in, items, 1, marks)
        self.refuses(BadText(22), rows_in, [*items, "/"], 2, marks)
        self.refuses(BadText(20), rows_in, [*items[:-1], "2"], 2, marks)

    def test_texts_of_what_is_made(self):
        for machine in (cone(Word("AB")), up_to(20), EVEN.turned(Word("ABcd")), cone(Word("A")) | EVEN):
            self.assertEqual(Machine.read(str(machine)).rows, machine.rows)
        self.assertEqual(len(str(cone(Word("AB" * 2000))).split(" / ")), cone(Word("AB" * 2000)).standings)
        thrown = Machine(told_rows(9, 1000))
        self.assertEqual(Machine.read(str(thrown)).rows, thrown.rows)


if __name__ == "__main__":
    unittest.main()
