import itertools

from sevenball.balls import cone_cut, tops_of
from sevenball.cuts import Codes, codes, come_to, cut, cut_with, led_by, moved_by, split
from sevenball.errors import BadMachine, BadNumber, BadPaper, BadWord, Thin, TooMany
from sevenball.look_cuts import shows_codes, shows_cut
from sevenball.machines import Machine
from sevenball.made import cone, ending, everything, lengths, nothing, of_letters, up_to, weighed
from sevenball.painted import Painted
from sevenball.papers import Denial, Paper
from sevenball.pieces import Cut, Piece
from sevenball.tails import lost_tail
from sevenball.words import Word
from tests.readings import LETTERS, mark_at, other_rows, short_words, struck, told_rows, undone
from tests.values import EVEN, HUGE, NOT_INTEGERS, NOT_MACHINES, NOT_WORDS, Case, some_function

SHORT = short_words(3)
PAIRS = short_words(2)
LAST = ending(Word("A"))
THIN = [LAST, nothing(), up_to(2), of_letters("ABCD")]
ONE = Painted([(1, [0] * 8)])
MIXED = Painted([(1, [1, 0, 2, 0, 1, 2, 0, 1]), (2, [0, 2, 2, 1, 0, 0, 1, 1]), (0, [2, 2, 1, 2, 2, 2, 2, 0])])
HALVES = Painted.of([lengths(2, [0]), lengths(2, [1])])
TOLD = Codes([[Word("AB"), Word("AC"), Word("B"), Word("C")]])


def turning(seed, many, lit):
    """The machine that each letter leads around in its own way: every word is a tail."""
    steps = [(seed * (at + 3) + at * at + 1) % many for at in range(8)]
    return Machine([(at in lit, [(at + step) % many for step in steps]) for at in range(many)])


def two_rows():
    return [Machine(told_rows(seed, 2)) for seed in range(60)]


def three_rows():
    """Machines of three rows, one of which leads to itself alone and is not lit."""
    rows = []
    for seed in range(120):
        (lit, nexts), (other, further) = told_rows(seed, 2)
        bent = [2 if (seed * 7 + at * 5) % 11 == 0 else to for at, to in enumerate(nexts)]
        rows.append(Machine([(lit, bent), (other or seed % 3 == 0, further), (False, [2] * 8)]))
    return rows


def full(machines):
    return [machine for machine in machines if lost_tail(machine) is None]


SMALL = full([*two_rows()[::4], *three_rows()[::5], EVEN, ~EVEN, everything(), turning(2, 2, [1])])
CONES = [cone(Word(letters)) for letters in ("", "A", "b", "ABc", "ABcDabCd", "AAAA")]
PROMISED = [*SMALL, *CONES]


def place_by_hand(told, letters):
    colour = mark_at(told.painted.rows, letters)
    if colour == 0:
        return None
    turn, ball = told.turns[colour - 1]
    return ball, struck(turn.letters + letters)


def come_by_hand(told, ball, letters):
    come = {struck(undone(turn.letters) + letters) for turn, its in told.turns if its == ball}
    return sorted((one for one in come if place_by_hand(told, one) == (ball, letters)), key=lambda one: (len(one), one))


def some_cuts():
    """Sound cuts as a caller tells them, of which most cut no set."""
    turns = [[(Word("A"), 0), (Word("bC"), 3)], [[Word(), 1], [Word("a"), 1]], ((Word("ABcD"), 63), (Word("d"), 0), (Word("A"), 7))]
    return [*[Cut(MIXED, row) for row in turns], Cut(ONE, [(Word("Cd"), 2)]), Cut(Painted([(0, [0] * 8)]), []), cut(EVEN, 2),
            cone_cut(Word("A"), tops_of(Word("A"), 2))]


UNSOUND = [
    None, True, 1, HUGE, "", (), [], {}, some_function, Cut, Paper(), Denial(), Word("A"), EVEN, Piece(EVEN), ONE, (ONE, ()),
    Cut(None, []), Cut(EVEN, [(Word(), 0)]), Cut(ONE.rows, [(Word(), 0)]), Cut(ONE, None), Cut(ONE, []), Cut(ONE, {0: (Word(), 0)}),
    Cut(ONE, (Word(), 0)), Cut(ONE, [(Word(), 64)]), Cut(ONE, [(Word(), -1)]), Cut(ONE, [(Word(), True)]), Cut(ONE, [(Word(), None)]),
    Cut(ONE, [("A", 0)]), Cut(ONE, [(0, Word())]), Cut(ONE, [(Word(),)]), Cut(ONE, [(Word(), 0, 0)]), Cut(ONE, [Word()]),
    Cut(ONE, [(Word(), 0)] * 201), Cut(MIXED, [(Word(), 0)]), Cut(ONE, [(Word(), 0), None]), Cut(ONE, [(Word(), 0), (Word(), 64)]),
    Cut(MIXED, [(Word(), HUGE), (Word(), 0)]), Cut(ONE, [(Word(), "0")]), Cut(ONE, Word("A")), Codes([[Word()]]),
]
# Standings to which no word leads may have any colour; turns of no colour may be told.
SOUND = [Cut(Painted([(1, [0] * 8), (9, [1] * 8)]), [(Word(), 0)]), Cut(ONE, [(Word(), 63)] * 200),
         Cut(Painted([(1, [1] * 4 + [0] * 4), (1, [1] * 4 + [2] * 4), (7, [2] * 8)]).least(), [(Word(), 0)] * 7)]


class Moved(Case):
    def test_against_one_another(self):
        for told in some_cuts():
            goals = {}
            for word in SHORT:
                by_hand = place_by_hand(told, word.letters)
                place = moved_by(cut=told, word=word)
                self.assertEqual(None if place is None else (place[0], place[1].letters), by_hand)
                if by_hand is not None:
                    self.assertIs(type(place), tuple)
                    goals.setdefault(by_hand, []).append(word.letters)
            for ball, word in itertools.product((0, 1, 2, 3, 7, 63), SHORT):
                come = come_to(cut=told, ball=ball, word=word)
                self.assertIs(type(come), tuple)
                self.assertEqual([one.letters for one in come], come_by_hand(told, ball, word.letters))
                self.assertLessEqual(set(goals.get((ball, word.letters), [])), {one.letters for one in come})

    def test_long_words(self):
        long_word = Word("ABcD" * 1000)
        told = Cut(ONE, [(Word("D"), 0)])
        self.refuses(TooMany("letters", 4000), moved_by, told, long_word)
        self.refuses(TooMany("letters", 4000), come_to, told, 0, ~long_word)
        self.assertEqual(come_to(told, 0, Word("D") * long_word[:3999]), (long_word[:3999],))
        self.assertEqual(come_to(told, 1, ~long_word), ())
        for value in SOUND:
            moved_by(value, Word())

    def test_what_is_no_sound_cut(self):
        for value in UNSOUND:
            self.refuses(BadPaper("cut"), moved_by, value, None)
            self.refuses(BadPaper("cut"), come_to, value, None, None)
            self.refuses(BadPaper("cut"), split, value, None, None)
        for at, value in itertools.product(range(3), ((Word(), 64), (Word(), True), "A", None, (Word("A"),), ("A", 0), (0, Word()))):
            turns = [(Word(), 0), (Word("A"), 1), [Word("b"), 2]]
            turns[at] = value
            self.refuses(BadPaper("cut"), moved_by, Cut(MIXED, turns), Word())

    def test_wrong_arguments(self):
        told = some_cuts()[0]
        for value in (*NOT_INTEGERS, -1, 64, HUGE):
            self.refuses(BadNumber("ball"), come_to, told, value, None)
        for value in NOT_WORDS:
            self.refuses(BadWord(0), moved_by, told, value)
            self.refuses(BadWord(0), come_to, told, 0, value)


class CodesTold(Case):
    def check(self, machine, count, rows):
        made = self.comes_soon(lambda: codes(machine=machine, count=count))
        self.assertIs(type(made), Codes)
        self.assertEqual(len(made.ahead), count)
        every = [word.letters for row in made.ahead for word in row]
        self.assertLessEqual(len(every), 96)
        self.assertEqual(len(set(every)), len(every))
        self.assertFalse(any(one != other and one.startswith(other) for one, other in itertools.product(every, repeat=2)))
        if rows <= 6:
            self.assertLessEqual(max(map(len, every)), 200)
        for row, word in itertools.product(made.ahead, PAIRS):
            by_hand = next(code * word for code in row if code.fits(word) and mark_at(machine.rows, (code * word).letters))
            self.assertEqual(led_by(machine=machine, value=made, ball=made.ahead.index(row), word=word), by_hand)
        self.assertIs(shows_codes(machine, count, made), True)
        return made

    def test_small_machines(self):
        for at, machine in enumerate(PROMISED):
            for count in (1, at % 8 + 1, 8):
                self.check(machine, count, 3)

    def test_six_rows(self):
        turns = [turning(seed, many, lit) for seed, many, lit in
                 ((1, 6, [0]), (2, 6, [3]), (5, 6, [1, 2]), (1, 5, [4]), (4, 5, [0]), (1, 4, [2]), (3, 6, [5]))]
        self.assertGreater(len(full(turns)), 4)
        for machine in [*full(turns), *full([Machine(told_rows(seed, 6)) for seed in range(80)]), lengths(6, [1])]:
            made = self.check(machine, 8, 6)
            self.check(machine, 3, 6)
            other = Machine(other_rows(machine.rows, 3))
            self.assertEqual(codes(other, 8), made)
            self.assertEqual(codes(machine.least(), 8), made)

    def test_thin(self):
        for machine in THIN:
            for count in (1, 6):
                self.refuses_thin(machine, lambda: codes(machine, count))
                self.refuses_thin(machine, lambda: cut(machine, count))

    def refuses_thin(self, machine, call):
        with self.assertRaises(Thin) as caught:
            call()
        self.assertEqual(vars(caught.exception), {"word": lost_tail(machine)})

    def test_too_many(self):
        self.refuses(TooMany("words", 96), codes, lengths(12, [0]), 5)
        self.assertIs(shows_codes(lengths(12, [0]), 4, codes(lengths(12, [0]), 4)), True)

    def test_wrong_arguments(self):
        for value in NOT_MACHINES:
            for call in (codes, cut, cut_with):
                self.refuses(BadMachine("machine"), call, value, None)
            self.refuses(BadMachine("machine"), led_by, value, None, None, None)
        for value in (*NOT_INTEGERS, 0, 9, -1, HUGE):
            self.refuses(BadNumber("count"), codes, EVEN, value)
            self.refuses(BadNumber("count"), codes, LAST, value)
        for value in (*NOT_INTEGERS, 0, 7, -1, HUGE):
            self.refuses(BadNumber("count"), cut, EVEN, value)
            self.refuses(BadNumber("count"), cut, LAST, value)

    def test_led_by(self):
        for letters, wanted in (("", "AB"), ("A", "BA"), ("bA", "ACbA"), ("b", "Cb"), ("AB", "ABAB"), ("c", "Bc"), ("bc", "ACbc")):
            self.assertEqual(led_by(EVEN, TOLD, 0, Word(letters)), Word(wanted))
        for value in NOT_WORDS:
            self.refuses(BadWord(0), led_by, EVEN, TOLD, 0, value)
        for value in (*NOT_INTEGERS, -1, 1, 8, HUGE):
            self.refuses(BadNumber("ball"), led_by, EVEN, TOLD, value, None)
        self.refuses(TooMany("letters", 4000), led_by, EVEN, TOLD, 0, Word("ABcD" * 1000))

    def test_wrong_codes(self):
        rows = TOLD.ahead[0]
        wrong = [
            Codes([rows[:3]]), Codes([[*rows, Word("A")]]), Codes([[*rows, Word("BA")]]), Codes([[*rows, rows[0]]]), Codes([]), Codes(rows),
            Codes([rows, rows]), Codes([rows, []]), Codes([[]]), Codes([TOLD]), Codes([TOLD.ahead]), Codes([["AB", "AC", "B", "C"]]),
            Codes(None), Codes(TOLD), Codes("AB"), Codes([[*rows, "D"]]), Codes([[*rows, None]]), Codes([[Word()]]), Codes({0: rows}),
            None, True, TOLD.ahead, rows, some_function, Codes, Paper(), Word("AB"), Cut(ONE, [(Word(), 0)]),
            Codes([[*rows[:3], Word("BC")]]), Codes([rows] * 9), Codes([[*rows, *[Word("D" + word.letters) for word in SHORT[65:172]
                                                                            if word.letters[0] != "d"]]]),
        ]
        for value in wrong:
            self.refuses(BadPaper("value"), led_by, EVEN, value, None, None)
            self.refuses(BadPaper("value"), cut_with, EVEN, value)
            self.assertIs(shows_codes(EVEN, 1, value), False)
        for machine in THIN:
            for value in (TOLD, Codes([[Word()]]), Codes([])):
                self.refuses(BadPaper("value"), led_by, machine, value, 0, Word())
        self.assertEqual(led_by(everything(), Codes([(Word(),)]), 0, Word("AB")), Word("AB"))


class CutTold(Case):
    def check(self, machine, told, count, most=3):
        for word in short_words(most):
            self.assertIs(moved_by(told, word) is not None, mark_at(machine.rows, word.letters))
        for ball, word in itertools.product(range(count), PAIRS):
            come = come_to(told, ball, word)
            self.assertEqual(len(come), 1)
            self.assertEqual(come_by_hand(told, ball, word.letters), [come[0].letters])
            self.assertIs(mark_at(machine.rows, come[0].letters), True)
            self.assertEqual(moved_by(told, come[0]), (ball, word))
        self.assertLessEqual(max(len(turn) for turn, ball in told.turns), 200)
        self.assertIs(type(told.turns), tuple)
        if len(told.turns) <= 12:
            self.assertIs(self.comes_soon(lambda: shows_cut(machine, count, told)), True)

    def test_promised(self):
        for at, machine in enumerate(PROMISED):
            for count in (1, at % 4 + 1):
                told = self.comes_soon(lambda: cut(machine=machine, count=count))
                self.check(machine, told, count, 3 if at % 3 == 0 else 2)

    def test_long_cones(self):
        for letters in ("ABcD" * 15, "A" * 60, "aB" * 30):
            machine = cone(Word(letters))
            told = self.comes_soon(lambda: cut(machine, 4))
            self.assertLessEqual(max(len(turn) for turn, ball in told.turns), 200)
            self.assertIs(shows_cut(machine, 4, told), True)
            for ball, word in itertools.product(range(4), [*PAIRS[::5], Word(letters), Word(letters) * Word("B")]):
                come = come_to(told, ball, word)
                self.assertEqual(len(come), 1)
                self.assertTrue(come[0].letters.startswith(letters))
        far = self.comes_soon(lambda: cut(cone(Word("ABcD" * 900)), 2))
        self.assertEqual(len(come_to(far, 1, Word("A"))), 1)

    def test_equal_calls(self):
        for machine in (EVEN, CONES[3], *SMALL[:6]):
            told = cut(machine, 2)
            self.assertEqual(cut(Machine(other_rows(machine.rows, 5)), 2), told)
            self.assertEqual(cut(machine.least(), 2), told)

    def test_more_than_is_promised(self):
        for machine in full([turning(1, 6, [0]), turning(2, 4, [1]), lengths(12, [0]), turning(5, 6, [1, 2]), turning(3, 5, [4])]):
            for count in (1, 5, 6):
                try:
                    told = self.comes_soon(lambda: cut(machine, count))
                except TooMany as error:
                    self.assertIn(vars(error), ({"what": "words", "most": 96}, {"what": "standings", "most": 2000}))
                else:
                    self.check(machine, told, count, 2)

    def test_cut_with(self):
        led = [Codes([[Word("AB"), Word("AC"), Word("B"), Word("C")], [Word("D"), Word("c"), Word("dd"), Word("dA")]]),
               Codes([TOLD.ahead[0][::-1]]), codes(EVEN, 1), Codes(((Word("Ac"), Word("bAb"), Word("bAC"), Word("cA")),))]
        several = [(EVEN, value) for value in led]
        several += [(everything(), Codes([[Word()]])), (everything(), Codes([[Word("A"), Word("B")], [Word("aC"), Word("aD")]])),
                    (CONES[1], Codes([[Word("AA"), Word("AB")], [Word("AC"), Word("AD")]])), (CONES[3], codes(CONES[3], 2)),
                    (everything(), Codes([[Word("b"), Word("c")], [Word("a"), Word("B"), Word("D")]]))]
        several += [(machine, codes(machine, 2)) for machine in SMALL if len(codes(machine, 1).ahead[0]) <= 4]
        for machine, value in several:
            self.assertIs(shows_codes(machine, len(value.ahead), value), True)
            told = self.comes_soon(lambda: cut_with(machine=machine, value=value))
            self.check(machine, told, len(value.ahead))
            for ball, word in itertools.product(range(1, len(value.ahead)), SHORT):
                self.assertEqual(moved_by(told, led_by(machine, value, ball, word)), (ball, word))
            self.assertEqual(cut_with(machine.least(), value), told)


class Split(Case):
    def place(self, told, ball, other, letters):
        """Where a word goes by the lines of [11]."""
        found = place_by_hand(told, letters)
        if found is None or found[0] < ball:
            return found
        if found[0] > ball:
            return found[0] + max(its for turn, its in other.turns), found[1]
        behind = place_by_hand(other, found[1])
        return None if behind is None else (behind[0] + ball, behind[1])

    def test_word_by_word(self):
        first = [Cut(MIXED, [(Word("A"), 0), (Word("bC"), 3)]), Cut(MIXED, [(Word("A"), 1), (Word("A"), 1)]), cut(EVEN, 2),
                 Cut(HALVES, [(Word(), 2), (Word("ABc"), 0), (Word(), 1)]), cone_cut(Word("A"), tops_of(Word("A"), 2))]
        second = [Cut(MIXED, [[Word("Ab"), 2], [Word(), 0]]), Cut(ONE, [(Word("d"), 1)]), cut(CONES[3], 2), Cut(HALVES, ((Word(), 0),) * 2),
                  Cut(Painted([(0, [0] * 8)]), [(Word("A"), 1)])]
        for told, other in itertools.product(first, second):
            for ball in {its for turn, its in told.turns}:
                more = self.comes_soon(lambda: split(cut=told, ball=ball, other=other))
                self.assertIs(type(more), Cut)
                for word in SHORT:
                    self.assertEqual(place_by_hand(more, word.letters), self.place(told, ball, other, word.letters))
                self.assertLessEqual(max(more.painted.colours()), len(more.turns))
                again = split(Cut(told.painted.least(), told.turns), ball, Cut(other.painted.least(), other.turns))
                self.assertEqual(again, more)

    def test_whole_balls(self):
        told = split(cut(EVEN, 2), 0, cut(everything(), 2))
        for ball, word in itertools.product(range(3), PAIRS):
            self.assertEqual(len(come_to(told, ball, word)), 1)

    def test_bounds(self):
        low, high = Cut(ONE, ((Word(), 0),)), Cut(ONE, ((Word(), 63),))
        self.assertEqual(split(low, 0, high), high)
        self.assertEqual(split(high, 63, low), high)
        self.assertEqual(split(Cut(ONE, [(Word(), 62)]), 62, Cut(ONE, [(Word(), 1)])), high)
        self.refuses(TooMany("balls", 64), split, high, 63, Cut(ONE, [(Word(), 1)]))
        self.refuses(TooMany("balls", 64), split, Cut(ONE, [(Word(), 1)]), 1, high)
        self.refuses(TooMany("balls", 64), split, Cut(ONE, [(Word(), 0), (Word(), 63)]), 0, Cut(ONE, [(Word(), 1)]))
        split(Cut(ONE, [(Word(), 0), (Word(), 62)]), 0, Cut(ONE, [(Word(), 1)]))

    def test_colours(self):
        # The words of the first 200 of so many cones go by as many turns.
        rows = Painted.of([cone(word) for word in SHORT[65:265]])
        turns = [(Word(word.letters[0] * at + "A"), 0) for at, word in zip(range(200), [Word("B")] * 200)]
        told = Cut(rows, turns)
        self.assertEqual(len(split(told, 0, Cut(ONE, [(Word(), 0)])).turns), 200)
        double = Cut(Painted.of([ending(Word("A"))]), [(Word("C"), 0)])
        two = Cut(Painted.of([ending(Word("A")), everything()]), [(Word("C"), 0), (Word("D"), 0)])
        self.assertEqual(len(split(told, 0, double).turns), 200)
        self.refuses(TooMany("colours", 200), split, told, 0, two)
        fewer = Cut(Painted.of([cone(word) for word in SHORT[65:165]]), turns[:100])
        self.assertEqual(len(split(fewer, 0, two).turns), 200)

    def test_wrong_arguments(self):
        told = Cut(HALVES, [(Word(), 2), (Word("A"), 5)])
        for value in (*NOT_INTEGERS, -1, 0, 3, 64, HUGE):
            self.refuses(BadNumber("ball"), split, told, value, None)
        self.refuses(BadNumber("ball"), split, Cut(HALVES, [(Word(), 1), (Word(), 1)]), True, told)
        for value in (*UNSOUND, Cut(Painted([(0, [0] * 8)]), [])):
            self.refuses(BadPaper("other"), split, told, 2, value)
        self.refuses(BadPaper("other"), split, Cut(ONE, [(Word(), 63)]), 63, None)
        self.assertEqual(LETTERS, "ABCDabcd")


class Nothing_Changes(Case):
    def test_arguments_stay(self):
        turns, ahead = [[Word("A"), 0], [Word(), 1]], [[Word("AB"), Word("AC"), Word("B"), Word("C")]]
        told, value = Cut(HALVES, turns), Codes(ahead)
        before = (HALVES.rows, EVEN.rows)
        moved_by(told, Word("A")), come_to(told, 0, Word("A")), split(told, 0, told), led_by(EVEN, value, 0, Word())
        cut_with(EVEN, value), cut(EVEN, 1), codes(EVEN, 2), shows_cut(EVEN, 2, told), shows_codes(EVEN, 1, value)
        self.assertIs(told.turns, turns)
        self.assertEqual((turns, ahead), ([[Word("A"), 0], [Word(), 1]], [[Word("AB"), Word("AC"), Word("B"), Word("C")]]))
        self.assertEqual((HALVES.rows, EVEN.rows), before)

    def test_papers(self):
        for value in (1, None, [Word("A")], {1: 2}, some_function):
            self.assertIs(Codes(value).ahead, value)
            self.assertIs(Codes(ahead=value).ahead, value)
            self.assertIs(bool(Codes(value)), True)
            self.assertEqual(Codes(value), Codes(value))
            self.assertIs(Codes(value) == Cut(value, value), False)
        self.assertIs(Codes.__bases__ == (Paper,), True)
        self.assertEqual(weighed((1, 1, 1, 1), 1, [0]), everything())
