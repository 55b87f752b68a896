import itertools

from sevenball.balls import cone_cut, tops_of
from sevenball.cuts import Codes, codes, cut, cut_with
from sevenball.errors import BadMachine, BadNumber
from sevenball.look_cuts import shows_codes, shows_cut
from sevenball.machines import Machine
from sevenball.made import cone, ending, everything, lengths, nothing, of_letters
from sevenball.painted import Painted
from sevenball.pieces import Cut
from sevenball.words import Word
from tests.readings import mark_at, other_rows, short_words, struck, told_rows, undone
from tests.test_cuts import CONES, MIXED, ONE, SMALL, THIN, TOLD, UNSOUND
from tests.values import EVEN, HUGE, NOT_INTEGERS, NOT_MACHINES, Case

PAIRS = short_words(2)
SIDES = Painted.of([cone(Word("A")), ~cone(Word("A"))])


def wrong_by_hand(machine, count, told, most):
    """Whether some short word shows that it is no cut of the set."""
    for word in short_words(most):
        if (mark_at(told.painted.rows, word.letters) > 0) != mark_at(machine.rows, word.letters):
            return True
    for ball, word in itertools.product(range(count), short_words(most)):
        come = {at for at, (turn, its) in enumerate(told.turns)
                if its == ball and mark_at(told.painted.rows, struck(undone(turn.letters) + word.letters)) == at + 1}
        if len(come) != 1:
            return True
    return False


class ShowsCodes(Case):
    def test_nearly_right(self):
        for machine, count in ((EVEN, 1), (EVEN, 2), (CONES[1], 3), (SMALL[0], 1), (lengths(3, [1]), 2), (everything(), 4)):
            made = codes(machine, count)
            self.assertIs(shows_codes(machine=machine, count=count, value=made), True)
            self.assertIs(shows_codes(machine, count, Codes(list(made.ahead)[::-1])), True)
            self.assertIs(shows_codes(machine, count % 8 + 1, made), False)
            for at, place in itertools.product(range(count), range(len(made.ahead[0]))):
                for bent in self.bends(list(made.ahead[at]), place):
                    rows = [list(row) for row in made.ahead]
                    rows[at] = bent
                    self.assertIs(shows_codes(machine, count, Codes(rows)), self.by_hand(machine, rows))
            self.assertIs(shows_codes(machine, count, Codes([*made.ahead[1:], made.ahead])), False)
            self.assertIs(shows_codes(machine, count, list(made.ahead)), False)

    def bends(self, row, place):
        word = row[place]
        yield row[:place] + row[place + 1:]
        yield row[:place] + [word * Word("A")] + row[place + 1:]
        yield row[:place] + [word * Word("B"), word * Word("C")] + row[place + 1:]
        yield row[:place] + [word[:len(word) - 1]] + row[place + 1:]
        yield row[:place] + [word, word] + row[place + 1:]
        yield row[:place] + [word.letters] + row[place + 1:]
        yield [word] + row[:place] + row[place + 1:]
        yield row[:place] + [word[:len(word) - 1] * Word(letter) for letter in "ABCDabcd"
                             if word[:len(word) - 1].fits(Word(letter))] + row[place + 1:]

    def by_hand(self, machine, rows):
        every = [word for row in rows for word in row]
        if not all(isinstance(word, Word) for word in every):
            return False
        if any(one.begins(other) for one, other in itertools.permutations(every, 2)):
            return False
        return all(any(code.fits(word) and mark_at(machine.rows, (code * word).letters) for code in row)
                   for row, word in itertools.product(rows, short_words(3)))

    def test_other_values(self):
        for value in (*UNSOUND, Cut(ONE, [(Word(), 0)]), TOLD.ahead, [TOLD], Codes([TOLD]), Codes(TOLD.ahead[0])):
            self.assertIs(shows_codes(EVEN, 1, value), False)
        for machine, count in itertools.product(THIN, (1, 2)):
            for value in (TOLD, Codes([[Word()]]), Codes([]), Codes([[], []]), Codes([[Word("A"), Word("b")]] * 2)):
                self.assertIs(shows_codes(machine, count, value), False)
        self.assertIs(shows_codes(EVEN, 1, Codes(tuple(TOLD.ahead))), True)
        # As many words as are let, and one more.
        many = [Word(one + two + last) for one, two, last in itertools.product("ABC", "ABCD", "ABCD")] + [
            Word("D" + two + last + end) for two, last, end in itertools.product("AB", "ABCD", "ABCD")]
        many += [Word("D" + two + last) for two, last in itertools.product("CD", "ABCD")] + [
            Word("a" + two + last) for two, last in itertools.product("BD", "ABCD")]
        self.assertEqual(len(many), 96)
        self.assertIs(shows_codes(EVEN, 1, Codes([many])), True)
        self.assertIs(shows_codes(EVEN, 1, Codes([[*many, Word("c")]])), False)
        self.assertIs(shows_codes(EVEN, 1, Codes([[*many[1:], Word("c")]])), True)

    def test_errors(self):
        for value in NOT_MACHINES:
            self.refuses(BadMachine("machine"), shows_codes, value, None, None)
            self.refuses(BadMachine("machine"), shows_cut, value, None, None)
        for value, machine in itertools.product((*NOT_INTEGERS, 0, -1, HUGE), (EVEN, THIN[0])):
            self.refuses(BadNumber("count"), shows_codes, machine, value, TOLD)
            self.refuses(BadNumber("count"), shows_cut, machine, value, TOLD)
        self.refuses(BadNumber("count"), shows_codes, EVEN, 9, TOLD)
        self.refuses(BadNumber("count"), shows_cut, EVEN, 7, TOLD)
        self.assertIs(shows_codes(EVEN, 8, TOLD), False)
        self.assertIs(shows_cut(EVEN, 6, TOLD), False)


class ShowsCut(Case):
    def test_told_by_hand(self):
        one = Cut(Painted.of([everything()]), [(Word("AB"), 0)])
        halves = Painted.of([lengths(2, [0]), lengths(2, [1])])
        for machine, count, value, wanted in (
            (everything(), 1, one, True), (everything(), 2, one, False), (EVEN, 1, one, False), (everything(), 1, [one], False),
            (everything(), 1, Cut(one.painted, ((Word(), 0),)), True), (everything(), 1, Cut(one.painted, [[Word(), 1]]), False),
            (everything(), 1, Cut(one.painted, [(Word(), 0), (Word(), 0)]), True), (everything(), 1, Cut(one.painted, []), False),
            (everything(), 1, Cut(one.painted, [(Word(), 0), (Word(), 1)]), False),
            (everything(), 1, Cut(halves, [(Word(), 0), (Word(), 0)]), True), (everything(), 1, Cut(halves, [(Word("AB"), 0), (Word(), 0)]), True),
            (everything(), 1, Cut(halves, [(Word("A"), 0), (Word(), 0)]), False), (everything(), 1, Cut(halves, [(Word("A"), 0), (Word("b"), 0)]), True),
            (everything(), 2, Cut(halves, [(Word("A"), 0), (Word("b"), 1)]), False),
            (everything(), 1, Cut(SIDES, [(Word("a"), 0), (Word(), 0)]), False), (everything(), 1, Cut(SIDES, [(Word(), 0), (Word(), 0)]), True),
            (everything(), 1, Cut(SIDES, [(Word(), 0), (Word("A"), 0)]), False), (cone(Word("A")), 1, Cut(SIDES, [(Word(), 0), (Word(), 0)]), False),
            (EVEN, 1, Cut(Painted.of([EVEN]), [(Word(), 0)]), False), (everything(), 1, Cut(one.painted.rows, one.turns), False),
            (everything(), 1, Cut(MIXED, [(Word(), 0), (Word(), 0)]), False), (nothing(), 1, Cut(Painted([(0, [0] * 8)]), []), False),
        ):
            self.assertIs(shows_cut(machine=machine, count=count, value=value), wanted)
            self.assertIs(shows_cut(Machine(other_rows(machine.rows, 4)), count, value), wanted)

    def test_swapped_ends(self):
        # Behind A and behind B the words of any set can be exchanged: each goes where the other one was.
        for seed, standings in ((1, 2), (2, 3), (3, 5), (4, 8)):
            ends = Machine(told_rows(seed, standings)) & ~(cone(Word("a")) | cone(Word("b")))
            painted = Painted.of([ends.turned(Word("A")), ends.turned(Word("B")), everything()])
            right = Cut(painted, [(Word("Ba"), 0), (Word("Ab"), 0), (Word(), 0)])
            self.assertIs(self.comes_soon(lambda: shows_cut(everything(), 1, right)), True)
            wrong = Cut(painted, [(Word("Ba"), 0), (Word(), 0), (Word(), 0)])
            self.assertIs(self.comes_soon(lambda: shows_cut(everything(), 1, wrong)), not bool(ends))

    def test_nearly_right(self):
        for machine, count, told in (
            (EVEN, 1, cut(EVEN, 1)), (EVEN, 2, cut(EVEN, 2)), (everything(), 2, cut(everything(), 2)), (CONES[3], 2, cut(CONES[3], 2)),
            (CONES[1], 2, cone_cut(Word("A"), tops_of(Word("A"), 2))), (SMALL[1], 1, cut(SMALL[1], 1)), (EVEN, 1, cut_with(EVEN, TOLD)),
        ):
            self.assertLessEqual(len(told.turns), 12)
            self.assertIs(self.comes_soon(lambda: shows_cut(machine, count, told)), True)
            self.assertIs(shows_cut(machine, count, Cut(told.painted, [list(pair) for pair in told.turns])), True)
            self.assertIs(shows_cut(machine, count, Cut(told.painted.least(), told.turns)), True)
            self.assertIs(shows_cut(machine, count + 1, told), False)
            self.assertIs(shows_cut(~machine, count, told), False)
            self.assertIs(shows_cut(machine, count, Cut(told.painted, told.turns[:-1])), False)
            for at, (turn, ball) in enumerate(told.turns):
                for pair in ((turn, ball + 1), (turn, (ball + 1) % count), (turn * Word("A"), ball), (~turn * Word("A"), ball), (turn.letters, ball)):
                    turns = list(told.turns)
                    turns[at] = pair
                    value = Cut(told.painted, turns)
                    right = turns == list(told.turns)
                    self.assertIs(self.comes_soon(lambda: shows_cut(machine, count, value)), right)
            for swapped in (told.turns[1:] + told.turns[:1], told.turns[::-1]):
                value = Cut(told.painted, swapped)
                if wrong_by_hand(machine, count, value, 3):
                    self.assertIs(shows_cut(machine, count, value), False)

    def test_many_turns(self):
        top = Word("ABcD" * 9)
        told = cone_cut(top, [top * Word("B" * at + "A") for at in range(3)])
        self.assertIs(self.comes_soon(lambda: shows_cut(cone(top), 3, told)), True)
        six = cone_cut(Word("ABcD" * 6), tops_of(Word("ABcD" * 6), 6))
        self.assertIs(self.comes_soon(lambda: shows_cut(cone(Word("ABcD" * 6)), 6, six)), True)
        for at in range(12):
            turns = list(six.turns)
            turns[at] = (turns[at][0], (turns[at][1] + 1) % 6)
            self.assertIs(self.comes_soon(lambda: shows_cut(cone(Word("ABcD" * 6)), 6, Cut(six.painted, turns))), False)

    def test_other_values(self):
        for value in (*UNSOUND, TOLD, Cut, [cut(EVEN, 1)], cut(EVEN, 1).painted):
            for machine, count in ((everything(), 1), (EVEN, 2), (THIN[0], 1)):
                self.assertIs(shows_cut(machine, count, value), False)
        # Of a set with a lost tail nothing is right.
        for machine in (ending(Word("A")), of_letters("ABCD"), nothing()):
            for painted in (Painted.of([machine]), ONE):
                for turns in ([(Word(), 0)], [(Word("A"), 0)], []):
                    self.assertIs(shows_cut(machine, 1, Cut(painted, turns)), False)
