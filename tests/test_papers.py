import unittest

from sevenball.papers import Denial, Paper
from tests.values import Case


class Told(Paper):
    def __init__(self, word, found):
        self.word = word
        self.found = found

    def fields(self):
        return (self.word, self.found)


class Other(Paper):
    def __init__(self, word, found):
        self.word = word
        self.found = found

    def fields(self):
        return (self.word, self.found)


class Refused(Denial):
    def __init__(self, word):
        self.word = word

    def fields(self):
        return (self.word,)


class Papers(Case):
    def test_bases(self):
        self.assertEqual(Paper.__bases__, (object,))
        self.assertEqual(Denial.__bases__, (Paper,))

    def test_a_denial_is_false_every_other_paper_true(self):
        self.assertIs(bool(Told(0, None)), True)
        self.assertIs(bool(Refused(True)), False)
        self.assertIs(bool(Paper()), True)
        self.assertIs(bool(Denial()), False)

    def test_equal_are_papers_of_one_class_with_equal_attributes(self):
        self.assertEqual(Told(1, [2]), Told(1, [2]))
        self.assertNotEqual(Told(1, [2]), Told(2, [2]))
        self.assertNotEqual(Told(1, [2]), Told(1, [3]))
        self.assertNotEqual(Told(1, 2), Other(1, 2))
        self.assertEqual(Refused("A"), Refused("A"))
        self.assertNotEqual(Refused("A"), Refused("B"))
        for value in (None, 1, "Refused", (1, 2), [1, 2], Told, Other(1, 2), Refused(1)):
            self.assertIs(Told(1, 2) == value, False)
            self.assertIs(Told(1, 2) != value, True)


if __name__ == "__main__":
    unittest.main()
