import itertools

from sevenball.cuts import come_to, cut, moved_by
from sevenball.errors import BadLot, BadPaper
from sevenball.lot_cuts import Lone, least_fault, shows_two, two_balls
from sevenball.lots import Lot
from sevenball.made import cone, everything, lengths
from sevenball.painted import Painted
from sevenball.papers import Denial, Paper
from sevenball.pieces import Cut
from sevenball.words import Word
from tests.readings import mark_at, short_words, struck, told_rows, undone
from tests.test_cuts import ONE, UNSOUND
from tests.test_lots import EVENS, LOTS, NOT_LOTS, crowd
from tests.test_nets import NONE, ring, thrown_words, words
from tests.values import EVEN, Case, some_function

PAIRS = short_words(2)
HALVES = Painted.of([lengths(2, [0]), lengths(2, [1])])
SINGLE = [Lot(words("A")), Lot(words("ABAB")), Lot(words("b", "bb")), Lot([]), Lot(words("CAc"))]
SEVERAL = [lot for lot in LOTS if lot.rank >= 2]


def great_lots():
    rows = ring(200)
    rows[100][2] = rows[100][6] = 100
    path = [list(NONE) for _ in range(200)]
    for at in range(198):
        path[at][0], path[at + 1][4] = at + 1, at
    path[198][1], path[199][5], path[199][1], path[198][5] = 199, 198, 198, 199
    path[199][2] = path[199][6] = 199
    return [Lot.of_net(told) for told in (rows, path, crowd(200, 3))]


def come_by_hand(told, ball, letters):
    return [at for at, (turn, its) in enumerate(told.turns)
            if its == ball and mark_at(told.painted.rows, struck(undone(turn.letters) + letters)) == at + 1]


def fault_by_hand(lot, told, most=60):
    for many in range(most):
        letters = lot.lone.power(many).letters
        if mark_at(told.painted.rows, letters) == 0 or any(len(come_by_hand(told, ball, letters)) != 1 for ball in (0, 1)):
            return many
    return None


class TwoBalls(Case):
    def check(self, lot, most=2):
        told = self.comes_soon(lambda: two_balls(lot=lot))
        self.assertIs(type(told), Cut)
        self.assertEqual(len(told.turns), 4)
        for turn, ball in told.turns:
            self.assertIn(turn, lot)
            self.assertLessEqual(len(turn), 500)
        for word in short_words(most):
            self.assertIsNotNone(moved_by(told, word))
            for ball in (0, 1):
                self.assertEqual(len(come_by_hand(told, ball, word.letters)), 1)
                self.assertEqual(len(come_to(told, ball, word)), 1)
        self.assertIs(self.comes_soon(lambda: shows_two(lot, told)), True)
        return told

    def test_lots(self):
        self.assertGreater(len(SEVERAL), 20)
        for at, lot in enumerate(SEVERAL):
            told = self.check(lot, 3 if at % 5 == 0 else 2)
            self.assertEqual(two_balls(Lot.of_net(lot.net)), told)
            # Also about longer words the lot has: products of the basis.
            for one, other in itertools.product(lot.basis[:3], repeat=2):
                for ball in (0, 1):
                    self.assertEqual(len(come_to(told, ball, ~one * other)), 1)
                    self.assertEqual(len(come_to(told, ball, one * other * ~one)), 1)

    def test_great_lots(self):
        for lot in great_lots():
            told = self.check(lot, 1)
            for at in range(4):
                turns = list(told.turns)
                turns[at] = (lot.basis[-1] * turns[at][0], turns[at][1])
                self.assertIs(self.comes_soon(lambda: shows_two(lot, Cut(told.painted, turns))), False)
                turns[at] = (told.turns[at][0], 1 - turns[at][1])
                self.assertIs(self.comes_soon(lambda: shows_two(lot, Cut(told.painted, turns))), False)

    def test_lone(self):
        for lot in SINGLE:
            self.assertEqual(two_balls(lot), Lone(lot.lone))
            self.assertIs(bool(two_balls(lot)), False)
        for lot in LOTS:
            if lot.rank < 2:
                self.assertEqual(two_balls(lot), Lone(lot.lone))

    def test_what_is_no_lot(self):
        for value in NOT_LOTS:
            self.refuses(BadLot("lot"), two_balls, value)
            self.refuses(BadLot("lot"), shows_two, value, None)
            self.refuses(BadLot("lot"), least_fault, value, None)


class Shown(Case):
    def test_lone(self):
        single = SINGLE[1]
        for letters, wanted in (("AB", True), ("ba", True), ("ABAB", True), ("baba", True), ("BABA", False), ("A", False), ("", False),
                                ("ABABAB", False), ("ABABABAB", False), ("BA", False)):
            self.assertIs(shows_two(lot=single, value=Lone(Word(letters))), wanted)
        for word in PAIRS:
            self.assertIs(shows_two(Lot([]), Lone(word)), True)
            self.assertIs(shows_two(EVENS, Lone(word)), False)
            for lot in SINGLE:
                by_hand = any(word.power(many) == lot.lone for many in range(-4, 5))
                self.assertIs(shows_two(lot, Lone(word)), by_hand)
        self.assertIs(shows_two(SINGLE[0], Lone(Word("AB" * 2000))), False)
        self.assertIs(shows_two(Lot([Word("A" * 20)]), Lone(Word("ABc"))), False)
        self.assertIs(shows_two(Lot([Word("A" * 20)]), Lone(Word("aaaa"))), True)
        for value in (Lone("AB"), Lone(None), Lone([Word("AB")]), Lone(True), Lone, Word("AB"), "AB", None, Denial(), Paper(), Lone(Lone(Word("AB")))):
            self.assertIs(shows_two(single, value), False)
            self.assertIs(shows_two(EVENS, value), False)

    def test_cuts(self):
        for lot in SEVERAL[::4]:
            told = two_balls(lot)
            self.assertIs(shows_two(lot, Cut(told.painted, [list(pair) for pair in told.turns])), True)
            self.assertIs(shows_two(lot, Cut(told.painted, [(turn, 1 - ball) for turn, ball in told.turns])), True)
            self.assertIs(shows_two(lot, Cut(told.painted, [(lot.basis[0] * turn, ball) for turn, ball in told.turns])), True)
            self.assertIs(shows_two(lot, Cut(told.painted, [*told.turns, (lot.basis[1], 1)])), True)
            self.assertIs(shows_two(lot, Cut(told.painted, [*told.turns, (Word(), 2)])), False)
            self.assertIs(shows_two(lot, Cut(told.painted, told.turns[:3])), False)
            self.assertIs(shows_two(lot, Cut(told.painted.rows, told.turns)), False)
            self.assertIs(shows_two(lot, [told]), False)
            for at in range(4):
                turns = list(told.turns)
                turns[at] = (turns[at][0] * lot.basis[0], turns[at][1])
                value = Cut(told.painted, turns)
                if not shows_two(lot, value):
                    continue
                for word, ball in itertools.product(short_words(2), (0, 1)):
                    self.assertEqual(len(come_by_hand(value, ball, word.letters)), 1)
        whole = cut(everything(), 2)
        self.assertIs(shows_two(Lot(words("A", "B", "C", "D")), whole), True)
        self.assertIs(shows_two(EVENS, whole), all(turn in EVENS for turn, ball in whole.turns))
        self.assertIs(shows_two(Lot(words("A", "B")), cut(everything(), 1)), False)
        self.assertIs(shows_two(Lot(words("A", "B")), cut(EVEN, 2)), False)
        for value in (*UNSOUND, Cut(ONE, [(Word(), 0)]), Cut(HALVES, [(Word(), 0), (Word(), 1)])):
            for lot in (EVENS, SINGLE[0], Lot([])):
                self.assertIs(shows_two(lot, value), False)


class Faults(Case):
    def test_against_each_lesser_number(self):
        paints = [HALVES, ONE, Painted.of([cone(Word("A")), ~cone(Word("A"))]), Painted.of([cone(Word("a")), everything()]),
                  *[Painted(told_rows(seed, 3, (1, 2))) for seed in range(6)], Painted(told_rows(9, 2, (0, 1, 2)))]
        paints += [Painted.of([cone(Word("A" * at)), cone(Word("a" * at)), everything()]) for at in (1, 3, 9)]
        ways = [((0, 0), (1, 1), (0, 1)), ((0, 0), (0, 1), (1, 1)), ((2, 0), (-1, 1), (0, 0)), ((1, 0), (0, 1), (-3, 1)), ((0, 1), (0, 1), (1, 0)),
                ((9, 0), (0, 0), (0, 1)), ((-5, 1), (5, 0), (0, 1))]
        met = {}
        for lot, painted, way in itertools.product(SINGLE, paints, ways):
            told = Cut(painted, [(lot.lone.power(many), ball) for many, ball in way])
            fault = self.comes_soon(lambda: least_fault(lot=lot, cut=told))
            self.assertEqual(fault, fault_by_hand(lot, told))
            met[fault] = True
        self.assertGreater(len(met), 3)

    def test_far_faults(self):
        # The powers of A, from a to a great number on, are led so that all is well up to there.
        lot = Lot(words("A"))
        for far in (10, 40, 300):
            ends = Word("A" * far)
            painted = Painted.of([cone(ends), cone(Word("A")), everything()])
            told = Cut(painted, [(Word(), 0), (Word("a" * 0), 0), (Word("A"), 0)])
            self.assertEqual(least_fault(lot, told), fault_by_hand(lot, told, 2))
        steps = Cut(Painted.of([lengths(2, [0]) & cone(Word("A")), lengths(2, [1]) & cone(Word("A")), everything()]),
                    [(Word(), 0), (Word("A"), 1), (Word("A" * 30), 0)])
        self.assertEqual(least_fault(lot, steps), fault_by_hand(lot, steps))
        great = Cut(ONE, [(Word("A" * 4000), 0)])
        self.assertEqual(self.comes_soon(lambda: least_fault(lot, great)), 0)
        self.assertEqual(self.comes_soon(lambda: least_fault(lot, Cut(ONE, [(Word("a" * 4000), 0)]))), 0)
        self.assertEqual(least_fault(lot, Cut(Painted([(0, [0] * 8)]), [])), 0)
        self.assertEqual(least_fault(lot, Cut(HALVES, [(Word(), 0), (Word("A"), 1)])), 1)
        self.assertEqual(least_fault(lot, Cut(HALVES, [(Word(), 0), (Word(), 1)])), 0)

    def test_refusals(self):
        for lot in SEVERAL[:5]:
            self.refuses(BadLot("lot"), least_fault, lot, None)
            self.refuses(BadLot("lot"), least_fault, lot, two_balls(lot))
        for lot in SINGLE:
            for value in (*UNSOUND, Cut(ONE, [(Word("D"), 0)]), Cut(ONE, [(Word(), 2)]), Cut(ONE, [(Word(), 0), (Word("BC"), 1)]), Lone(Word("A"))):
                self.refuses(BadPaper("cut"), least_fault, lot, value)
        self.refuses(BadPaper("cut"), least_fault, SINGLE[1], Cut(ONE, [(Word("AB"), 0)]))

    def test_papers(self):
        self.assertEqual(Lone.__bases__, (Denial,))
        for value in (1, None, [Word("A")], some_function):
            self.assertIs(Lone(value).word, value)
            self.assertIs(Lone(word=value).word, value)
            self.assertIs(bool(Lone(value)), False)
            self.assertEqual(Lone(value), Lone(value))
        self.assertEqual(thrown_words(3), thrown_words(3))
