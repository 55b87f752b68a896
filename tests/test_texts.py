import itertools

from sevenball.cuts import cut
from sevenball.errors import BadPaper, BadPiece, BadPoint, BadText, TooMany
from sevenball.machines import Machine
from sevenball.made import cone
from sevenball.painted import Painted
from sevenball.pieces import Cut, Piece
from sevenball.points import Point, steps
from sevenball.texts import cut_of, cut_text, piece_of, piece_text, story
from sevenball.words import Word
from tests.readings import some_machines, some_painted
from tests.test_cuts import TOLD
from tests.values import EVEN, NOT_MACHINES, NOT_POINTS, NOT_STRINGS, Case

ONE = "0 0 0 0 0 0 0 0"
STRANGE = ["", " ", "+1", "01", "-0", "E", "Aa", "--", "A-", "x", "1.0", "\n", "4001", "10000", "-1", "100", "\u0661", "::", "/:", "None", "*"]


class Pieces(Case):
    def test_there_and_back(self):
        for machine, letters in itertools.product(some_machines(), ("", "A", "AbC", "ABcD" * 15)):
            piece = Piece(machine, Word(letters))
            text = piece_text(piece=piece)
            self.assertEqual(text, f"{letters or '-'} : {machine}")
            again = piece_of(text=text)
            self.assertEqual(again, piece)
            self.assertEqual((again.turn, again.machine.rows), (piece.turn, piece.machine.rows))
            self.assertEqual(piece_text(again), text)

    def test_bent_items(self):
        items = piece_text(Piece(EVEN, Word("Ab"))).split(" ")
        self.assertEqual(len(items), 21)
        for at, item in itertools.product(range(21), [*STRANGE, "+", "-", "A", "Ab", "0", "1", "2", ":", "/"]):
            bent = [*items[:at], item, *items[at + 1:]]
            wrong = self.first_wrong(bent)
            if wrong is None:
                self.assertEqual(piece_text(piece_of(" ".join(bent))), " ".join(bent))
            else:
                self.refuses(BadText(wrong), piece_of, " ".join(bent))
        for at in range(21):
            for bent in (items[:at], items[:at] + items[at + 1:], items[:at] + [items[at]] + items[at:], items[:at] + ["x"] + items[at:]):
                wrong = self.first_wrong(bent)
                self.assertIsNotNone(wrong)
                self.refuses(BadText(wrong), piece_of, " ".join(bent))
        self.refuses(BadText(21), piece_of, " ".join([*items, "+"]))
        self.refuses(BadText(22), piece_of, " ".join([*items, "/"]))

    def first_wrong(self, items):
        """The index by the words of [2], item by item."""
        forms = [lambda item: item == "-" or item in ("A", "Ab"), lambda item: item == ":"]
        if items == []:
            return 0
        for at, item in enumerate(items):
            place = (at - 2) % 10
            if at < 2:
                good = forms[at](item)
            elif place == 0:
                good = item in ("+", "-")
            elif place == 9:
                good = item == "/"
            else:
                good = item.isascii() and item.isdigit() and str(int(item)) == item and len(item) <= 4
            if not good:
                return at
        if len(items) < 3 or (len(items) - 2) % 10 != 9:
            return len(items)
        many = (len(items) - 1) // 10
        numbers = [int(item) for at, item in enumerate(items) if at >= 2 and (at - 2) % 10 not in (0, 9)]
        return len(items) - 1 if max(numbers) >= many else None

    def test_wrong_values(self):
        for value in NOT_STRINGS:
            self.refuses(BadText(0), piece_of, value)
            self.refuses(BadText(0), cut_of, value)
        for value in (EVEN, *[value for value in NOT_MACHINES if not isinstance(value, Piece)]):
            self.refuses(BadPiece("piece"), piece_text, value)
        for text, wrong in (("", 0), ("A", 1), ("A :", 2), ("A B : ", 1), ("Aa : - " + ONE, 0), ("A: - " + ONE, 0), (" A : - " + ONE, 0), ("- :  ", 2),
                            ("A : - " + ONE + " ", 11), ("ABcD" * 1001 + " : - " + ONE, 0)):
            self.refuses(BadText(wrong), piece_of, text)
        self.assertEqual(piece_of("- : - " + ONE).turn, Word())
        self.refuses(TooMany("standings", 4000), piece_of, "- : " + " / ".join(["- " + ONE] * 4001))
        self.assertEqual(self.comes_soon(lambda: piece_of("- : " + " / ".join(["- " + ONE] * 4000))).machine.standings, 4000)


class Cuts(Case):
    def test_there_and_back(self):
        rows = [(), ((Word(), 0),), ((Word("A"), 99), (Word("bC"), 7)), [[Word("A"), 1]] * 200, tuple((Word("ABcD" * at), at) for at in range(12))]
        for painted, turns in itertools.product(some_painted(), rows):
            told = Cut(painted, turns)
            text = cut_text(cut=told)
            wanted = " ".join([f"{turn} {ball}" for turn, ball in turns] + [":", str(painted)])
            self.assertEqual(text, wanted)
            again = cut_of(text=text)
            self.assertIs(type(again), Cut)
            self.assertEqual(again.painted.rows, painted.rows)
            self.assertEqual(again.turns, tuple(tuple(pair) for pair in turns))
            self.assertEqual(cut_text(again), text)
        parted = cut(EVEN, 2)
        self.assertEqual(cut_of(cut_text(parted)), parted)

    def test_bent_items(self):
        items = ["AB", "0", "-", "17", ":", "3", *ONE.split(" "), "/", "200", *"1 0 1 0 1 0 1 0".split(" ")]
        cut_of(" ".join(items))
        for at, item in itertools.product(range(len(items)), [*STRANGE, "A", "-", ":", "0", "1", "99", "200", "201", "/"]):
            self.check([*items[:at], item, *items[at + 1:]])
        for at in range(len(items)):
            for bent in (items[:at], items[:at] + items[at + 1:], items[:at] + [items[at]] + items[at:], items[:at] + ["x"] + items[at:]):
                self.check(bent)
        self.check([*items, "/"]), self.check([*items, ""]), self.check([])

    def check(self, bent):
        wrong = self.first_wrong(bent)
        if wrong is None:
            self.assertEqual(cut_text(cut_of(" ".join(bent))), " ".join(bent))
        else:
            self.refuses(BadText(wrong), cut_of, " ".join(bent))

    def first_wrong(self, items):
        if items == []:
            return 0
        at = 0
        while at < len(items) and items[at] != ":":
            if items[at] not in ("AB", "A", "-"):
                return at
            if at + 1 < len(items) and items[at + 1] not in [str(ball) for ball in range(100)]:
                return at + 1
            at += 2
        if at >= len(items):
            return len(items)
        colours = [str(colour) for colour in range(201)]
        for place, item in enumerate(items[at + 1:]):
            good = item in colours if place % 10 == 0 else item == "/" if place % 10 == 9 else (
                item.isascii() and item.isdigit() and str(int(item)) == item and len(item) <= 4)
            if not good:
                return at + 1 + place
        behind = items[at + 1:]
        if len(behind) % 10 != 9:
            return len(items)
        numbers = [int(item) for place, item in enumerate(behind) if place % 10 not in (0, 9)]
        return len(items) - 1 if max(numbers) >= (len(behind) + 1) // 10 else None

    def test_bounds(self):
        told = " ".join(["A 0"] * 200 + [":", "0", ONE])
        self.assertEqual(len(cut_of(told).turns), 200)
        self.refuses(BadText(400), cut_of, "A 0 " + told)
        self.refuses(BadText(1), cut_of, "A 100 : 0 " + ONE)
        self.refuses(BadText(2), cut_of, "A 0 Aa")
        self.refuses(TooMany("standings", 4000), cut_of, ": " + " / ".join(["0 " + ONE] * 4001))
        painted = Painted([(1, [0] * 8)])
        for value in (None, True, 1, "", (), EVEN, painted, Cut, TOLD, Piece(EVEN), Cut(None, []), Cut(EVEN, []), Cut(painted, None), Cut(painted, Word()),
                      Cut(painted, [(Word(), 100)]), Cut(painted, [(Word(), -1)]), Cut(painted, [(Word(), True)]), Cut(painted, [("A", 0)]),
                      Cut(painted, [(Word(),)]), Cut(painted, [(Word(), 0, 0)]), Cut(painted, [(Word(), 0)] * 201), Cut(painted, (Word(), 0)),
                      Cut(painted.rows, []), Cut(painted, [(0, Word())]), Cut(painted, {0: (Word(), 0)}), Cut(painted, "A 0")):
            self.refuses(BadPaper("cut"), cut_text, value)
        # A cut need not be sound to have a text.
        self.assertEqual(cut_text(Cut(painted, [])), ": 1 " + ONE)
        self.assertEqual(cut_text(Cut(painted, [[Word("A"), 99]])), "A 99 : 1 " + ONE)


class Stories(Case):
    def test_story(self):
        for point in (Point(33, -4, -36, 49), Point(0, 0, 5), Point(6, 2, 3, 7), Point(0, -7, 0, 3), Point(3, 4, 0, 5).turned(Word("AbCdaB"))):
            told = story(point=point)
            self.assertIs(type(told), tuple)
            self.assertEqual(told, tuple(f"{one} : {one.word}" for one in steps(point)))
            for text, one in zip(told, steps(point)):
                self.assertEqual(Point.read(text.split(" : ")[0]), one)
        far = Point(1, 0, 0).turned(Word("ABcD" * 100))
        self.assertEqual(len(self.comes_soon(lambda: story(far))), 401)
        self.assertEqual(len(self.comes_soon(lambda: story(Point(1, 0, 0).turned(Word("ABcD" * 1000))))), 4001)
        for value in NOT_POINTS:
            self.refuses(BadPoint("point"), story, value)
        self.assertEqual(str(Machine.read(str(cone(Word("A"))))), str(cone(Word("A"))))
