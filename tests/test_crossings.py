import itertools

from sevenball.crossings import Carry, Crossing, address, found
from sevenball.errors import BadMachine, BadNumber, BadPoint, BadWord, Thin, TooMany
from sevenball.machines import Machine
from sevenball.made import cone, ending, everything, lengths, nothing, of_letters, up_to, weighed
from sevenball.points import Point
from sevenball.tails import lost_tail
from sevenball.words import Word
from tests.readings import mark_at, other_rows, short_words, struck, told_rows, undone
from tests.test_cuts import full, turning
from tests.values import EVEN, HUGE, NOT_INTEGERS, NOT_MACHINES, NOT_WORDS, Case

PAIRS = short_words(2)
LONG = Word("ABcDDaCb" * 8)[:60]
SIXES = full([turning(1, 6, [0]), turning(2, 6, [3]), turning(5, 6, [1, 2]), turning(3, 6, [5]), turning(4, 5, [0]),
              *[Machine(told_rows(seed, 6)) for seed in range(70)]])
SETS = [EVEN, everything(), cone(Word("A")), cone(Word("ABcDa")), lengths(3, [1]), *SIXES]
MADE = full([EVEN & cone(Word("A")), EVEN.turned(Word("bC")), lengths(12, [5]).turned(LONG), cone(LONG).turned(~LONG[:30]),
             SIXES[0] | SIXES[1], SIXES[0] ^ lengths(5, [1]), ~cone(Word("AB")), weighed((1, 2, 0, 3), 5, [0, 2]), SIXES[2] & EVEN])
THIN = [ending(Word("A")), nothing(), up_to(3), of_letters("ABCD")]
BARE = [Point(1, 0, 0), Point(0, 3, 4, 5), Point(-2, 0, 0, 9), Point(6, 8, 0)]
NOT_VALUES = [value for value in NOT_WORDS if not isinstance(value, Point)]


class There(Case):
    def check(self, machine, count):
        crossing = self.comes_soon(lambda: Crossing(machine=machine, count=count))
        self.assertIs(crossing.machine, machine)
        self.assertEqual(crossing.count, count)
        self.assertIs(type(crossing.turns), tuple)
        letters = [turn.letters for turn in crossing.turns]
        self.assertEqual(letters, sorted(set(letters), key=lambda row: (len(row), row)))
        self.assertLessEqual(len(letters), 40 * machine.standings * count)
        met = {}
        for word in [*short_words(3 if count == 1 else 2), LONG, LONG[:59], LONG[7:]]:
            if not mark_at(machine.rows, word.letters):
                self.refuses(BadWord(0), crossing.there, word)
                continue
            ball, come = crossing.there(value=word)
            self.assertIn(ball, range(count))
            self.assertIn(struck(come.letters + undone(word.letters)), letters)
            self.assertNotIn((ball, come.letters), met)
            met[(ball, come.letters)] = word
            self.assertEqual(crossing.back(ball, come), word)
        for ball, word in itertools.product(range(count), [*PAIRS, LONG, LONG[1:]]):
            come = crossing.back(ball=ball, value=word)
            self.assertTrue(mark_at(machine.rows, come.letters))
            self.assertEqual(crossing.there(come), (ball, word))
        for word, bare in itertools.product((Word(), Word("Ab"), LONG[:20]), BARE):
            point = bare.turned(word)
            home = crossing.back(count - 1, point)
            self.assertEqual((home.bare, home.radius, home.word), (bare, bare.radius, crossing.back(count - 1, word)))
            self.assertEqual(crossing.there(home), (count - 1, point))
        return crossing

    def test_sets(self):
        for at, machine in enumerate(SETS):
            for count in (1, at % 8 + 1):
                crossing = self.check(machine, count)
                self.assertLessEqual(len(crossing.turns[-1]), 150 if machine == everything() else 200)
        self.check(SIXES[0], 8)
        self.check(everything(), 8)

    def test_made_sets(self):
        for at, machine in enumerate(MADE):
            self.check(machine, at % 8 + 1)
        for machine in (cone(Word("A" * 60)), cone(LONG).turned(LONG), cone(LONG).turned(~LONG), lengths(12, [0]).turned(LONG),
                        lengths(11, [3, 4]), cone(Word("AB" * 30)).turned(Word("cD" * 30)), lengths(2, [1]).turned(~LONG)):
            crossing = self.check(machine, 8)
            self.assertLessEqual(len(crossing.turns[-1]), 400)

    def test_equal_machines(self):
        for machine in (EVEN, SIXES[0], SIXES[-1], cone(Word("Ab"))):
            crossing = Crossing(machine, 3)
            for other in (Machine(other_rows(machine.rows, 8)), machine.least()):
                same = Crossing(other, 3)
                self.assertEqual(same.turns, crossing.turns)
                for ball, word in itertools.product(range(3), PAIRS):
                    self.assertEqual(same.back(ball, word), crossing.back(ball, word))
                for word in PAIRS:
                    if machine.takes(word):
                        self.assertEqual(same.there(word), crossing.there(word))

    def test_long_words(self):
        far = Word("ABcD" * 1000)
        for machine, count in ((EVEN, 2), (SIXES[0], 8), (everything(), 3)):
            crossing = Crossing(machine, count)
            home = self.comes_soon(lambda: crossing.back(count - 1, far[:3980]))
            self.assertEqual(self.comes_soon(lambda: crossing.there(home)), (count - 1, far[:3980]))
            self.refuses(TooMany("letters", 4000), crossing.back, 0, ~far)
            self.refuses(TooMany("letters", 4000), crossing.back, 0, BARE[0].turned(~far))
        # A guest is led to a longer word.
        crossing = Crossing(EVEN, 1)
        guest = next(word for word in PAIRS if EVEN.takes(word) and len(crossing.there(word)[1]) > len(word))
        self.refuses(TooMany("letters", 4000), crossing.there, guest * Word("D" * (4000 - len(guest))))
        self.refuses(TooMany("letters", 4000), crossing.there, BARE[1].turned(guest * Word("D" * (4000 - len(guest)))))

    def test_refusals(self):
        for value in NOT_MACHINES:
            self.refuses(BadMachine("machine"), Crossing, value, None)
        for value, machine in itertools.product((*NOT_INTEGERS, 0, 9, -1, HUGE), (EVEN, THIN[0])):
            self.refuses(BadNumber("count"), Crossing, machine, value)
        for machine in THIN:
            self.refuses_thin(lambda: Crossing(machine, 1), machine)
        crossing = Crossing(EVEN, 3)
        for value in NOT_VALUES:
            self.refuses(BadWord(0), crossing.there, value)
            self.refuses(BadWord(0), crossing.back, 0, value)
        for value in (*NOT_INTEGERS, -1, 3, HUGE):
            self.refuses(BadNumber("ball"), crossing.back, value, None)
        for letters in ("A", "ABc"):
            self.refuses(BadWord(0), crossing.there, Word(letters))
            self.refuses(BadPoint("value"), crossing.there, BARE[1].turned(Word(letters)))

    def refuses_thin(self, call, machine):
        with self.assertRaises(Thin) as caught:
            call()
        self.assertEqual(vars(caught.exception), {"word": lost_tail(machine)})


class Carried(Case):
    def test_there_and_back(self):
        pairs = [(EVEN, cone(Word("A"))), (cone(Word("ABc")), lengths(3, [2])), (everything(), EVEN), (SIXES[0], SIXES[1]),
                 (SIXES[-1], EVEN), (EVEN, everything()), (MADE[1], SIXES[2]), (EVEN, EVEN)]
        for one, other in pairs:
            carry = self.comes_soon(lambda: Carry(one=one, other=other))
            self.assertIs(carry.one, one)
            self.assertIs(carry.other, other)
            letters = [turn.letters for turn in carry.turns]
            self.assertEqual(letters, sorted(set(letters), key=lambda row: (len(row), row)))
            self.assertLessEqual(len(letters), 1600 * one.standings * other.standings)
            met = {}
            for word in [*short_words(3), LONG, LONG[:59]]:
                if mark_at(one.rows, word.letters):
                    come = carry(value=word)
                    self.assertTrue(mark_at(other.rows, come.letters))
                    self.assertEqual(carry.back(come), word)
                    self.assertIn(struck(come.letters + undone(word.letters)), letters)
                    self.assertNotIn(come.letters, met)
                    met[come.letters] = True
                else:
                    self.refuses(BadWord(0), carry, word)
                    self.refuses(BadPoint("value"), carry, BARE[1].turned(word))
                if mark_at(other.rows, word.letters):
                    self.assertEqual(carry(carry.back(value=word)), word)
                    point = BARE[2].turned(word)
                    self.assertEqual(carry(carry.back(point)), point)
                    self.assertEqual(carry.back(point).bare, BARE[2])
                else:
                    self.refuses(BadWord(0), carry.back, word)
                    self.refuses(BadPoint("value"), carry.back, BARE[1].turned(word))

    def test_refusals(self):
        for value in NOT_MACHINES:
            self.refuses(BadMachine("one"), Carry, value, None)
            self.refuses(BadMachine("other"), Carry, THIN[0], value)
        for machine, call in ((THIN[0], lambda: Carry(THIN[0], THIN[2])), (THIN[2], lambda: Carry(EVEN, THIN[2])),
                              (THIN[3], lambda: Carry(THIN[3], EVEN))):
            with self.assertRaises(Thin) as caught:
                call()
            self.assertEqual(caught.exception.word, lost_tail(machine))
        carry = Carry(EVEN, cone(Word("A")))
        for value in NOT_VALUES:
            self.refuses(BadWord(0), carry, value)
            self.refuses(BadWord(0), carry.back, value)


class Addresses(Case):
    def test_there_and_back(self):
        for machine, count in ((everything(), 1), (everything(), 3), (Machine([(True, [1] * 8), (True, [0] * 8)]), 8), (EVEN | ~EVEN, 2)):
            crossing = Crossing(machine, count)
            for many, value in itertools.product((0, 1, 2, 7, 20), [Word(), Word("aBC"), LONG, BARE[0], BARE[1].turned(LONG[:9])]):
                balls, end = self.comes_soon(lambda: address(crossing=crossing, value=value, many=many))
                self.assertIs(type(balls), tuple)
                self.assertEqual(len(balls), many)
                self.assertIs(type(end), type(value))
                self.assertEqual(found(crossing=crossing, balls=balls, value=end), value)
                by_hand, steps = value, []
                for _ in range(many):
                    ball, by_hand = crossing.there(by_hand)
                    steps.append(ball)
                self.assertEqual((tuple(steps), by_hand), (balls, end))
                row = [(at * 5 + many) % count for at in range(many)]
                self.assertEqual(address(crossing, found(crossing, row, value), many), (tuple(row), value))
        rows = list(itertools.product(range(2), repeat=3))
        crossing = Crossing(everything(), 2)
        self.assertEqual(len({found(crossing, row, Word("Ab")).letters for row in rows}), 8)

    def test_refusals(self):
        crossing, part = Crossing(everything(), 3), Crossing(EVEN, 3)
        for value in (None, True, 3, "", EVEN, everything(), Crossing, Word(), (), part, Carry(EVEN, EVEN)):
            self.refuses(BadMachine("crossing"), address, value, None, None)
            self.refuses(BadMachine("crossing"), found, value, None, None)
        for value in NOT_VALUES:
            self.refuses(BadWord(0), address, crossing, value, None)
            self.refuses(BadWord(0), address, crossing, value, 0)
            self.refuses(BadWord(0), found, crossing, [], value)
            self.refuses(BadWord(0), found, crossing, [0, 1], value)
        for value in (*NOT_INTEGERS, -1, 21, HUGE):
            self.refuses(BadNumber("many"), address, crossing, Word(), value)
        for value in (None, True, 0, "", "0", {0: 1}, [3], [-1], [0, True], [None], [[0]], [0, "1"], [0] * 21, Word(), HUGE, [HUGE]):
            self.refuses(BadNumber("balls"), found, crossing, value, None)
        self.assertEqual(found(crossing, (), Word("A")), Word("A"))
        self.assertEqual(len(address(crossing, found(crossing, [2] * 20, Word("A")), 20)[0]), 20)

    def test_nothing_changes(self):
        crossing, balls, point = Crossing(everything(), 3), [0, 2, 1], Point(6, 2, 3, 7)
        before = (crossing.turns, crossing.machine.rows, crossing.count)
        told = [found(crossing, balls, point) for _ in range(2)]
        self.assertEqual(told[0], told[1])
        address(crossing, point, 5), crossing.there(point), crossing.back(1, point)
        for call in (lambda: crossing.back(5, point), lambda: crossing.there(None), lambda: found(crossing, [9], point)):
            with self.assertRaises(ValueError):
                call()
        self.assertEqual((balls, str(point)), ([0, 2, 1], "6 2 3 / 7"))
        self.assertEqual((crossing.turns, crossing.machine.rows, crossing.count), before)
