"""Lots: sets of all products of some words and their undoings."""

from sevenball.checks import LETTERS
from sevenball.errors import BadLot, BadWord, TooMany
from sevenball.machines import machine_of
from sevenball.net_rows import (
    GREAT_LETTERS,
    basis_of,
    both_nets,
    edges_of,
    folded,
    is_within_net,
    kept_net,
    least_to,
    led_along,
    loops_of,
)
from sevenball.nets import net_in, net_of
from sevenball.strict_rows import BARRED
from sevenball.words import Word

MOST_PLACES = 2000


class Lot:
    """The lot that is told by a list of words."""

    def __init__(self, words):
        self.net = net_of(words)
        self.rank = rank_of(self.net)
        self.index = index_of(self.net)
        self._basis_words = None

    @staticmethod
    def of_net(rows):
        """The lot of the words that lead from place 0 to place 0."""
        return lot_of(net_in(rows))

    @property
    def basis(self):
        """The words of a basis."""
        if self._basis_words is None:
            self._basis_words = tuple([Word(letters) for letters in basis_of(self.net)])
        return self._basis_words

    @property
    def lone(self):
        """The lesser one of the two words of which the words of the lot are the powers, None if there is none."""
        if self.rank > 1:
            return None
        if self.rank == 0:
            return Word()
        word = self.basis[0]
        return word if word < ~word else ~word

    def __eq__(self, other):
        return isinstance(other, Lot) and self.net == other.net

    def __contains__(self, value):
        return isinstance(value, Word) and led_along(self.net, value.letters) == (0, len(value))

    def place(self, word):
        """The place to which a word leads, None if it leads nowhere."""
        if not isinstance(word, Word):
            raise BadWord(0)
        place, size = led_along(self.net, word.letters)
        return place if size == len(word) else None

    def rest(self, word):
        """The least of all products of a word of the lot and the word."""
        if not isinstance(word, Word):
            raise BadWord(0)
        place, size = led_along(self.net, word.letters)
        return Word(least_to(self.net)[place] + word.letters[size:])

    def spelled(self, word):
        """The words of the basis, and their undoings, of which a word is the product; None if it is none."""
        if not isinstance(word, Word):
            raise BadWord(0)
        if word not in self:
            return None
        # On its way a word goes by the loops of just these words.
        signs = {}
        for index, (at, letter, to) in enumerate(loops_of(self.net)):
            signs[(at, letter)] = (index, 1)
            signs[(to, BARRED[letter])] = (index, -1)
        spelled = []
        place = 0
        for sign in word.letters:
            letter = LETTERS.find(sign)
            if (place, letter) in signs:
                spelled.append(signs[(place, letter)])
            place = self.net[place][letter]
        return tuple(spelled)

    def rests(self):
        """All rests, ascending; None if they are not finitely many."""
        if self.index is None:
            return None
        return tuple([Word(letters) for letters in least_to(self.net)])

    def machine(self):
        """The machine of the words of the lot."""
        dead = len(self.net)
        rows = [(at == 0, tuple([dead if to is None else to for to in row])) for at, row in enumerate(self.net)]
        return machine_of((*rows, (False, (dead,) * len(LETTERS))))

    def __and__(self, other):
        if not isinstance(other, Lot):
            raise BadLot("other")
        return small_lot(both_nets(self.net, other.net))

    def __or__(self, other):
        if not isinstance(other, Lot):
            raise BadLot("other")
        many = len(self.net)
        edges = edges_of(self.net, 1) + edges_of(other.net, many)
        return small_lot(folded(many + len(other.net) - 1, edges))

    def within(self, other):
        """Whether each word of the lot lies in another one."""
        if not isinstance(other, Lot):
            raise BadLot("other")
        return is_within_net(self.net, other.net)

    def kept_from(self, word):
        """A lot of a finite index with all words of the lot, but not the word."""
        if not isinstance(word, Word) or word in self:
            raise BadWord(0)
        _, size = led_along(self.net, word.letters)
        if len(self.net) + len(word) - size > MOST_PLACES:
            raise TooMany("places", MOST_PLACES)
        return lot_of(kept_net(self.net, word.letters))


def lot_of(net):
    """The lot with a net, which is a right one, of however many places."""
    lot = Lot(())
    lot.net = net
    lot.rank = rank_of(net)
    lot.index = index_of(net)
    return lot


def small_lot(net):
    """The lot with a net; TooMany if it has too many places."""
    if len(net) > MOST_PLACES:
        raise TooMany("places", MOST_PLACES)
    return lot_of(net)


def rank_of(net):
    """How many words each basis has."""
    led = [to for row in net for to in row[:GREAT_LETTERS] if to is not None]
    return len(led) - len(net) + 1


def index_of(net):
    """How many rests there are, None if they are not finitely many."""
    return None if any([None in row for row in net]) else len(net)
