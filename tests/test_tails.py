import itertools
import unittest

from sevenball.errors import BadMachine, BadNumber, BadWord
from sevenball.look_tails import shows_beyond, shows_covering
from sevenball.machines import Machine
from sevenball.made import (
    behind, cone, ending, everything, just_words, lengths, nothing, of_letters, powers, up_to, weighed,
)
from sevenball.papers import Denial, Paper
from sevenball.tails import Covering, Lost, beyond, covering, is_tail, lead, lost_tail, uncovered
from sevenball.words import Word
from tests.readings import LETTERS, mark_at, other_rows, short_words, struck, taken, told_rows, undone
from tests.values import EVEN, HUGE, NOT_INTEGERS, NOT_MACHINES, NOT_WORDS, Case, some_function

SHORT = short_words(3)
LAST, GREAT = ending(Word("A")), of_letters("ABCD")
LONGEST = Word("ABcD" * 1000)
FULL = [EVEN, ~EVEN, cone(Word("A")), cone(Word("AB")), everything(), lengths(3, [1]), weighed((1, 2, 0, 1), 3, [1]),
        cone(Word("b")) & EVEN, EVEN.turned(Word("bC")), behind(Word("AB"), lengths(2, [1]))]
THIN = [LAST, ending(Word("AB")), GREAT, nothing(), up_to(2), powers(Word("AB")), just_words([Word("A"), Word("BA"), Word()]),
        of_letters("ABCDabc"), LAST & EVEN, GREAT.turned(Word("ab")), powers(Word("Aba")) | LAST]


def few_standings():
    return [Machine(told_rows(seed, standings)) for seed in range(40, 60) for standings in (1, 2, 3, 4)]


def tails_of(machine):
    """The letters of all tails of words of at most 5 letters of the set."""
    return {letters[at:] for letters in taken(machine, 5) for at in range(len(letters) + 1)}


def in_copy(machine, turn, word):
    return mark_at(machine.rows, struck(undone(turn.letters) + word.letters))


class Tails(Case):
    def test_is_tail(self):
        for machine in [*FULL, *THIN, *few_standings()[::3]]:
            tails = tails_of(machine)
            for word in short_words(2):
                self.assertIs(is_tail(machine=machine, word=word), word.letters in tails)
        self.assertIs(is_tail(just_words([Word("ABab")]), Word("ab")), True)
        self.assertIs(is_tail(just_words([Word("ABab")]), Word("B")), False)
        for machine in FULL:
            self.assertIs(self.comes_soon(lambda: is_tail(machine, LONGEST)), True)
            self.assertIs(is_tail(machine, LONGEST[:300]), True)
        self.assertIs(self.comes_soon(lambda: is_tail(LAST, LONGEST)), False)
        self.assertIs(self.comes_soon(lambda: is_tail(LAST, LONGEST[:3997])), True)
        self.assertIs(self.comes_soon(lambda: is_tail(cone(LONGEST), LONGEST)), True)
        self.assertIs(self.comes_soon(lambda: is_tail(ending(LONGEST), LONGEST[2000:])), True)

    def test_lost_tail(self):
        for machine in FULL:
            self.assertIsNone(lost_tail(machine=machine))
        for machine in [*THIN, *few_standings()]:
            lost = lost_tail(machine)
            tails = tails_of(machine)
            by_hand = next((word for word in short_words(2) if word.letters not in tails), None)
            if lost is None or len(lost) > 2:
                self.assertIsNone(by_hand)
            else:
                self.assertEqual(lost, by_hand)
            if lost is not None:
                self.assertIs(is_tail(machine, lost), False)

    def test_long_words(self):
        for letters in ("ABcD" * 1000, "AB" * 2000, "A" * 4000):
            self.assertIsNone(self.comes_soon(lambda: lost_tail(cone(Word(letters)))))
            self.assertEqual(self.comes_soon(lambda: lost_tail(ending(Word(letters)))), first_but(letters[-1]))
            turns = self.comes_soon(lambda: covering(cone(Word(letters[:3990])))).turns
            self.assertLessEqual(len(turns), 3)
            self.assertIsNone(self.comes_soon(lambda: uncovered(cone(Word(letters[:3990])), turns)))

    def test_lost_tails_far_away(self):
        # Words of any letters, but B behind A, behind which all is lost.
        rows = [(True, [1] + [0] * 7), (True, [1, 2] + [0] * 6), (False, [2] * 8)]
        self.assertEqual(lost_tail(Machine(rows)), Word("AB"))
        for letters in ("AB", "ABc", "CCd", "dCbA", "AAAAA"):
            self.assertEqual(lost_tail(~some_with(letters)), Word(letters))

    def test_just_words(self):
        ends = [Word(letters) for letters in ("ABA", "ABB", "aBC", "bCD", "cDa", "dab", "Dbc", "Acd")]
        self.assertEqual(self.comes_soon(lambda: lost_tail(just_words(ends))), Word("AA"))
        words = [Word(letters * 3) for letters in LETTERS]
        self.assertEqual(self.comes_soon(lambda: lost_tail(just_words(words))), Word("AB"))
        for at in range(0, 300, 7):
            words = [short_words(3)[65:][(at * 31 + 97 * k) % 392] for k in range(8)]
            found = {word.letters[k:] for word in words for k in range(4)}
            least = next(word for word in short_words(2) if word.letters not in found)
            self.assertEqual(self.comes_soon(lambda: lost_tail(just_words(words))), least)

    def test_many_places(self):
        # Each great letter leads around the places, its undoing back: so every word is a tail of place 0.
        rows = [(at == 0, [(at + step) % 200 for step in (1, 3, 7, 31, 199, 197, 193, 169)]) for at in range(200)]
        self.assertIsNone(self.comes_soon(lambda: lost_tail(Machine(rows))))
        net = [(True, [1, 4, 4, 4, 2, 4, 4, 4]), (False, [2, 3, 4, 4, 0, 4, 4, 4]), (False, [0, 4, 4, 4, 1, 4, 4, 4]),
               (False, [4, 4, 4, 4, 4, 1, 4, 4]), (False, [4] * 8)]
        self.assertEqual(self.comes_soon(lambda: lost_tail(Machine(net))), Word("B"))

    def test_lead(self):
        for machine in [*FULL, *THIN, *few_standings()[::3]]:
            for word in short_words(1) + [Word("ABc"), Word("baD")]:
                told = lead(machine=machine, word=word)
                by_hand = next(
                    (ahead for ahead in short_words(3) if ahead.fits(word) and mark_at(machine.rows, (ahead * word).letters)),
                    None,
                )
                if told is None or len(told) > 3:
                    self.assertIsNone(by_hand)
                else:
                    self.assertEqual(told, by_hand)
                if told is not None:
                    self.assertIs(told.fits(word) and machine.takes(told * word), True)
                self.assertIs(told is None, not is_tail(machine, word))
        self.assertEqual(lead(just_words([Word("ABcDab")]), Word("ab")), Word("ABcD"))
        self.assertEqual(self.comes_soon(lambda: lead(cone(LONGEST[:2000]), Word("A" * 2000))), LONGEST[:2000])
        self.assertEqual(self.comes_soon(lambda: lead(EVEN, LONGEST[:3999])), Word("A"))

    def test_the_least_lead_of_all(self):
        ahead = [(word.letters, undone(word.letters)[:1]) for word in short_words(4)]
        behind_it = [word for word in short_words(2)[::6]] + [
            Word(letters) for letters in ("Abc", "aDD", "CdCd", "bABB", "ABcDa", "ddddd", "ABcDAb", "cBaDcB", "AAAAAA")
        ]
        machines = [LAST, GREAT, EVEN, cone(Word("AB")).least(), *few_standings()[1::6], *few_standings()[3::6]]
        for machine in machines:
            ends = [(to, letters) for to, letters in zip([machine.after(word) for word in short_words(4)], ahead)]
            for word in behind_it:
                takes_from = [lit_from(machine.rows, to, word.letters) for to in range(machine.standings)]
                least = next((letters for to, (letters, barred) in ends
                              if takes_from[to] and (not barred or word.letters[:1] != barred)), None)
                told = lead(machine, word)
                if least is not None:
                    self.assertEqual(told, Word(least))
                elif told is not None:
                    self.assertGreater(len(told), 4)

    def test_wrong_arguments(self):
        for value in NOT_MACHINES:
            for call in (is_tail, lead, uncovered, beyond, shows_covering):
                self.refuses(BadMachine("machine"), call, value, None)
                self.refuses(BadMachine("machine"), call, value, Word())
            self.refuses(BadMachine("machine"), lost_tail, value)
            self.refuses(BadMachine("machine"), covering, value)
            self.refuses(BadMachine("machine"), shows_beyond, value, None, None)
        for value in NOT_WORDS:
            for machine in (EVEN, LAST, nothing()):
                self.refuses(BadWord(0), is_tail, machine, value)
                self.refuses(BadWord(0), lead, machine, value)

    def test_nothing_changes(self):
        machine, turns = cone(Word("A")) | LAST, [Word(), Word("b")]
        before = (machine.rows, machine.standings)
        is_tail(machine, Word("A")), lost_tail(machine), lead(machine, Word("b")), covering(machine)
        uncovered(machine, turns), shows_covering(machine, Covering(turns)), beyond(LAST, 2), shows_beyond(LAST, 2, Word())
        self.assertEqual((machine.rows, machine.standings), before)
        self.assertEqual(turns, [Word(), Word("b")])


def lit_from(rows, standing, letters):
    for letter in letters:
        standing = rows[standing][1][LETTERS.index(letter)]
    return rows[standing][0]


def first_but(letter):
    return Word("A" if letter != "A" else "B")


def some_with(letters):
    """The machine of all words in which some letters stand side by side."""
    rows = []
    for at in range(len(letters)):
        nexts = []
        for letter in LETTERS:
            row = letters[:at] + letter
            nexts.append(next(k for k in range(at + 1, -1, -1) if row.endswith(letters[:k])))
        rows.append((False, nexts))
    return Machine([*rows, (True, [len(letters)] * 8)])


class Coverings(Case):
    def test_what_covers(self):
        machines = [*FULL, *THIN, *few_standings()]
        for machine in machines:
            told = self.comes_soon(lambda: covering(machine=machine))
            lost = lost_tail(machine)
            self.assertIs(shows_covering(machine, told), True)
            if lost is not None:
                self.assertEqual(told, Lost(lost))
                self.assertIs(bool(told), False)
                continue
            self.assertIs(type(told), Covering)
            self.assertIs(type(told.turns), tuple)
            self.assertLessEqual(len(told.turns), 8 * machine.standings + 1)
            self.assertEqual(len({turn.letters for turn in told.turns}), len(told.turns))
            self.assertIsNone(uncovered(machine, told.turns))
            for word in SHORT:
                self.assertTrue(any(in_copy(machine, turn, word) for turn in told.turns))
        self.assertGreater(sum(bool(covering(machine)) for machine in machines), 20)

    def test_a_set_that_needs_many(self):
        # A word of the set must come to a place before its letters can be what they like.
        machine = behind(Word("ABCDabcd" * 6), EVEN)
        told = self.comes_soon(lambda: covering(machine))
        self.assertIsNone(uncovered(machine, told.turns))
        self.assertEqual(self.comes_soon(lambda: covering(everything())), Covering((Word(),)))

    def test_equal_calls(self):
        for at, machine in enumerate([*FULL, *few_standings()[::5]]):
            self.assertEqual(covering(machine), covering(machine))
            if machine.standings < 10:
                other = Machine(other_rows(machine.rows, at))
                self.assertEqual(covering(other), covering(machine))
                self.assertEqual(covering(machine.least()), covering(machine))
        for machine in THIN:
            self.assertEqual(beyond(machine, 5), beyond(machine.least(), 5))

    def test_uncovered(self):
        lists = [(), [Word()], (Word(), Word("A")), [Word("A"), Word("A"), Word("b")], short_words(1), [Word("ABc"), Word("Cd")],
                 [Word("ABcD"), Word("ABca"), Word("ABc")]]
        for machine, turns in itertools.product([*FULL, *THIN, *few_standings()[::4]], lists):
            told = uncovered(machine=machine, turns=turns)
            by_hand = next((word for word in SHORT if not any(in_copy(machine, turn, word) for turn in turns)), None)
            if told is None or len(told) > 3:
                self.assertIsNone(by_hand)
            else:
                self.assertEqual(told, by_hand)
            if told is not None:
                self.assertFalse(any(in_copy(machine, turn, told) for turn in turns))
        for machine in THIN:
            self.assertIsNotNone(uncovered(machine, short_words(2)[:73]))

    def test_many_turns(self):
        turns = short_words(3)[100:200]
        self.assertEqual(self.comes_soon(lambda: uncovered(LAST, turns)), least_missed(LAST, turns))
        self.assertIsNone(uncovered(EVEN, [Word(), Word("c")] * 50))
        self.assertEqual(uncovered(EVEN, [Word("AB")] * 100), Word("A"))
        far = [LONGEST, ~LONGEST, LONGEST[1:], Word("A")]
        self.assertIsNone(self.comes_soon(lambda: uncovered(EVEN, far)))
        self.assertEqual(self.comes_soon(lambda: uncovered(EVEN, far[:2])), Word("A"))
        self.assertEqual(self.comes_soon(lambda: uncovered(LAST, far)), least_missed(LAST, far))
        long_turns = [word * Word("ABcD" * 14) for word in short_words(3)[65:165]]
        self.assertEqual(self.comes_soon(lambda: uncovered(GREAT, long_turns)), least_missed(GREAT, long_turns))
        self.assertIsNone(self.comes_soon(lambda: uncovered(cone(Word("A")), [~word for word in long_turns])))

    def test_what_is_no_list_of_turns(self):
        for value in (*NOT_WORDS, Word("A"), [Word()] * 101, (Word("A"),) * 200, {Word: 1}, [[Word()]]):
            if value != ():
                self.refuses(BadWord(0), uncovered, EVEN, value)
        for value, at in itertools.product(NOT_WORDS, range(3)):
            self.refuses(BadWord(0), uncovered, EVEN, [Word("A")] * at + [value] + [Word()] * (2 - at))


def least_missed(machine, turns):
    return next(word for word in short_words(4) if not any(in_copy(machine, turn, word) for turn in turns))


class Beyond(Case):
    def test_small_numbers(self):
        for machine, many in itertools.product([*THIN, *few_standings()[:40]], range(3)):
            if lost_tail(machine) is None:
                self.refuses(BadMachine("machine"), beyond, machine, many)
                continue
            told = beyond(machine=machine, many=many)
            self.assertLessEqual(len(told), 1000)
            for turn in short_words(many):
                self.assertFalse(in_copy(machine, turn, told))
            self.assertIs(shows_beyond(machine, many, told), True)

    def test_great_numbers(self):
        for machine, many in itertools.product(THIN, (3, 10, 99, 100)):
            told = self.comes_soon(lambda: beyond(machine, many))
            self.assertLessEqual(len(told), 1000)
            self.assertIs(self.comes_soon(lambda: shows_beyond(machine, many, told)), True)
            self.assertIsNotNone(uncovered(machine, short_words(min(many, 2))))
        for seed in range(40):
            machine = Machine(told_rows(seed, 6))
            if lost_tail(machine) is not None:
                told = self.comes_soon(lambda: beyond(machine, 100))
                self.assertLessEqual(len(told), 1000)
                self.assertIs(shows_beyond(machine, 100, told), True)

    def test_wrong_arguments(self):
        for value in (*NOT_INTEGERS, -1, 101, HUGE, -HUGE):
            for machine in THIN[:4]:
                self.refuses(BadNumber("many"), beyond, machine, value)
                self.refuses(BadNumber("many"), shows_beyond, machine, value, None)
            for machine in FULL[:4]:
                self.refuses(BadMachine("machine"), beyond, machine, value)
                self.refuses(BadMachine("machine"), shows_beyond, machine, value, Word())


class Shown(Case):
    def test_covering(self):
        for value, wanted in (
            (Covering([Word(), Word("A")]), True), (Covering((Word("A"), Word())), True), (Covering([Word(), Word("AB")]), False),
            (Covering([Word(), Word("c"), Word("B")]), True), (Covering([Word(), Word("A"), Word()]), False),
            (Covering([Word()]), False), (Covering([]), False), (Covering(["", "A"]), False), (Covering([Word(), "A"]), False),
            (Covering(None), False), (Covering(Word("A")), False), (Covering({Word: Word()}), False), (Covering("A"), False),
            (Covering([[Word(), Word("A")]]), False), (Covering(Covering([Word(), Word("A")])), False), (Covering, False),
            (Lost(Word()), False), (Lost(Word("A")), False), (None, False), ([Word(), Word("A")], False), (True, False),
            (Lost(None), False), (Paper(), False), (Denial(), False), (Covering(True), False),
        ):
            self.assertIs(shows_covering(machine=EVEN, value=value), wanted)
        hundred = short_words(3)[:100]
        self.assertIs(self.comes_soon(lambda: shows_covering(EVEN, Covering(hundred))), True)
        self.assertIs(shows_covering(EVEN, Covering(short_words(3)[:101])), False)
        self.assertIs(shows_covering(LAST, Covering(hundred)), False)

    def test_lost(self):
        for machine in [*FULL, *THIN]:
            tails = tails_of(machine)
            for word in short_words(2):
                self.assertIs(shows_covering(machine, Lost(word)), word.letters not in tails)
        for value in (Lost("B"), Lost(None), Lost([Word("B")]), Lost((Word("B"),)), Lost(True), Lost, Word("B"), "B",
                      Covering([Word("B")])):
            self.assertIs(shows_covering(LAST, value), False)
        self.assertIs(self.comes_soon(lambda: shows_covering(LAST, Lost(LONGEST))), True)

    def test_beyond(self):
        for machine, many in itertools.product([*THIN, *few_standings()[:16]], range(3)):
            if lost_tail(machine) is None:
                continue
            for word in [*short_words(2), Word("AAAB"), Word("dcBaD"), Word("CCC")]:
                right = not any(in_copy(machine, turn, word) for turn in short_words(many))
                self.assertIs(shows_beyond(machine=machine, many=many, value=word), right)
        for value in (*NOT_WORDS, "AAAB", [Word("AAAB")], Lost(Word("AAAB")), True):
            self.assertIs(shows_beyond(LAST, 2, value), False)
        self.assertIs(shows_beyond(nothing(), 100, Word()), True)
        self.assertIs(self.comes_soon(lambda: shows_beyond(LAST, 100, LONGEST)), True)
        self.assertIs(self.comes_soon(lambda: shows_beyond(LAST, 100, LONGEST[:3997])), False)
        self.assertIs(shows_beyond(LAST, 100, Word("B" * 99)), False)
        self.assertIs(shows_beyond(LAST, 100, Word("B" * 100)), True)


class Papers(Case):
    def test_what_they_keep(self):
        for shape, name, base in ((Covering, "turns", Paper), (Lost, "word", Denial)):
            self.assertEqual(shape.__bases__, (base,))
            for value in (Word("A"), None, [Word("A")], {1: 2}, some_function, HUGE):
                for paper in (shape(value), shape(**{name: value})):
                    self.assertIs(getattr(paper, name), value)
                    self.assertIs(bool(paper), base is Paper)
                    self.assertEqual(paper, shape(value))
                    self.assertNotEqual(paper, shape("other"))
            for other in (None, 1, Paper(), Denial(), shape, (1,), Lost(1) if shape is Covering else Covering(1)):
                self.assertIs(shape(1) == other, False)


if __name__ == "__main__":
    unittest.main()
