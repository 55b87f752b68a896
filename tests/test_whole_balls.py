"""Both ways in which it is looked whether balls are whole, against words tried one by one."""

import itertools

from sevenball.cuts import cut
from sevenball.made import cone, everything, lengths, up_to
from sevenball.painted import Painted
from sevenball.whole_balls import are_as_many, colours_ahead, come_of, is_whole
from sevenball.words import Word
from tests.readings import mark_at, short_words, struck, told_rows, undone
from tests.values import EVEN, Case

WORDS = short_words(4)
PAINTED = [Painted(told_rows(seed, 3, (0, 1, 2))) for seed in range(6)] + [
    Painted.of([cone(Word("A")), ~cone(Word("A"))]), Painted.of([lengths(2, [0]), lengths(2, [1])]), cut(EVEN, 1).painted,
    Painted.of([everything()]), Painted.of([up_to(1), everything()]), Painted.of([cone(Word("AB")), cone(Word("B")), everything()])]
TURNS = [(), ("",), ("A",), ("", ""), ("a", ""), ("A", "a"), ("", "ABc"), ("Ab", "Ab"), ("", "A", "b"), ("C", "C", "C"), ("ABaBa", "", "B")]


def come(rows, pieces, letters):
    return sum(mark_at(rows, struck(undone(turn) + letters)) == colour for colour, turn in pieces)


class Whole(Case):
    def cases(self):
        for painted, turns in itertools.product(PAINTED, TURNS):
            pieces = [(at + 1, turn) for at, turn in enumerate(turns)]
            counts = {len(word): 0 for word in WORDS}
            for word in WORDS:
                counts[len(word)] += come(painted.rows, pieces, word.letters)
            yield painted.strict, pieces, counts
        told = cut(EVEN, 1)
        yield told.painted.strict, [(at + 1, turn.letters) for at, (turn, ball) in enumerate(told.turns)], None

    def test_all_at_once_and_two_by_two(self):
        met = {}
        for rows, pieces, counts in self.cases():
            ahead = colours_ahead(rows)
            told = come_of(rows, ahead, pieces, (1,), None)
            self.assertIs(is_whole(rows, ahead, pieces), told)
            apart = all(come_of(rows, ahead, [one, other], (0, 1), None) for one, other in itertools.combinations(pieces, 2))
            self.assertIs(apart and are_as_many(rows, pieces), told)
            by_hand = {come(rows, pieces, word.letters) for word in WORDS} if counts is not None else {1}
            if told:
                self.assertEqual(by_hand, {1})
            elif by_hand == {1}:
                self.assertIs(come_of(rows, ahead, pieces, (1,), None), False)
            if max(by_hand) > 1:
                self.assertIs(apart, False)
            met[told] = True
        self.assertEqual(len(met), 2)

    def test_as_many(self):
        for rows, pieces, counts in self.cases():
            if counts is not None and are_as_many(rows, pieces):
                self.assertEqual(counts, {0: 1, 1: 8, 2: 56, 3: 392, 4: 2744})
        # As many words of each number of letters, but not each of them once.
        rows = Painted.of([cone(Word("A")), ~cone(Word("A"))]).strict
        self.assertIs(are_as_many(rows, [(1, ""), (2, "")]), True)
        self.assertIs(are_as_many(rows, [(1, "A"), (2, "")]), False)
        ends = Painted.of([cone(Word("AB")), everything()]).strict
        self.assertIs(are_as_many(ends, [(1, "Ca"), (2, "")]), True)
        self.assertIs(is_whole(ends, colours_ahead(ends), [(1, "Ca"), (2, "")]), False)

    def test_too_much_at_once(self):
        rows = PAINTED[8].strict
        pieces = [(at + 1, turn.letters) for at, (turn, ball) in enumerate(cut(EVEN, 1).turns)]
        self.assertIsNone(come_of(rows, colours_ahead(rows), pieces, (1,), 20))
        self.assertIs(come_of(rows, colours_ahead(rows), pieces, (1,), 20000), True)

    def test_colours_ahead(self):
        for painted in PAINTED:
            ahead = colours_ahead(painted.strict)
            for word in short_words(1):
                at = 0
                for letter in word.letters:
                    at = painted.strict[at][1]["ABCDabcd".index(letter)]
                found = {mark_at(painted.rows, word.letters + end.letters) for end in short_words(3) if word.fits(end)}
                for colour in found:
                    self.assertTrue(ahead[at] >> colour & 1)
                self.assertEqual(sum(ahead[at] >> colour & 1 for colour in range(9, 201)), 0)
