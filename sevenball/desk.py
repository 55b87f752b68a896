"""A desk, which keeps sets and points by names, and is told lines."""

from sevenball.desk_deeds import answer_of, answer_to, kept_by, sent
from sevenball.desk_lines import DEEDS, NAMES, forms_of, parted
from sevenball.errors import BadLine, BadMachine, BadPoint, NoName, Nothing, Thin, TooMany, Twice
from sevenball.machines import Machine
from sevenball.points import Point

MOST_DEEDS = 200
MOST_HEIGHT = 1000


class Desk:
    """Sets and points by names, and the deeds that stand or were taken back."""

    def __init__(self):
        # All deeds, of which so many stand; what is kept ahead of the first one, and behind each of them.
        self._deeds = []
        self._standing = 0
        self._kept = [{}]

    @staticmethod
    def read(lines):
        """The desk that is told the lines of a list."""
        if not isinstance(lines, (list, tuple)):
            raise BadLine(0)
        desk = Desk()
        for line in lines:
            desk.tell(line)
        return desk

    def tell(self, line):
        """Does what a line says, and returns what it answers."""
        kind, values = parted(line)
        if kind == "undo":
            return self.undone_line()
        if kind == "redo":
            return self.redone_line()
        kept = self._kept[self._standing]
        found = found_in(kept, kind, values)
        if kind not in DEEDS:
            return answer_to(kind, found)
        name = values[0]
        ball = ""
        if kind == "forget":
            return self.put_down(line, {key: kept[key] for key in kept if key != name}, name)
        if kind == "send":
            number, value = sent(found[0], found[1], found[2])
            ball = f"{number} "
        else:
            value = kept_by(kind, found)
        if isinstance(value, Point) and value.height > MOST_HEIGHT:
            raise TooMany("letters", MOST_HEIGHT)
        return self.put_down(line, {**kept, name: value}, ball + answer_of(value))

    def put_down(self, line, kept, answer):
        """Lets a deed stand behind which this is kept; those that were taken back are gone."""
        if self._standing == MOST_DEEDS:
            raise TooMany("lines", MOST_DEEDS)
        self._deeds = self._deeds[:self._standing] + [line]
        self._kept = self._kept[:self._standing + 1] + [kept]
        self._standing = self._standing + 1
        return answer

    def undone_line(self):
        """Takes the last deed back; its line."""
        if self._standing == 0:
            raise Nothing()
        self._standing = self._standing - 1
        return self._deeds[self._standing]

    def redone_line(self):
        """Does the deed again that was taken back last; its line."""
        if self._standing == len(self._deeds):
            raise Nothing()
        self._standing = self._standing + 1
        return self._deeds[self._standing - 1]

    def answers(self, lines):
        """What each line of a list answers, or the text of the error that it raises."""
        if not isinstance(lines, (list, tuple)):
            raise BadLine(0)
        return tuple([self.answer(line) for line in lines])

    def answer(self, line):
        """What a line answers, or the text of the error that it raises."""
        try:
            return self.tell(line)
        except BadLine as no_line:
            return f"error BadLine {no_line.item}"
        except Twice as doubled:
            return f"error Twice {doubled.name}"
        except NoName as unknown:
            return f"error NoName {unknown.name}"
        except Thin as thin:
            return f"error Thin {thin.word}"
        except BadPoint as no_point:
            return f"error BadPoint {no_point.part}"
        except BadMachine as no_machine:
            return f"error BadMachine {no_machine.part}"
        except TooMany as too_many:
            return f"error TooMany {too_many.what} {too_many.most}"
        except Nothing:
            return "error Nothing"

    def names(self):
        """All names by which something is kept, ascending."""
        return tuple(sorted([str(name) for name in self._kept[self._standing]]))

    def set_of(self, name):
        """The set of a name."""
        value = kept_at(self._kept[self._standing], name)
        if not isinstance(value, Machine):
            raise NoName(name)
        return value

    def point_of(self, name):
        """The point of a name."""
        value = kept_at(self._kept[self._standing], name)
        if not isinstance(value, Point):
            raise NoName(name)
        return value

    def lines(self):
        """The lines of all deeds that stand."""
        return tuple(self._deeds[:self._standing])

    def twin(self):
        """Another desk that goes on by itself."""
        desk = Desk()
        desk._deeds = list(self._deeds)
        desk._kept = list(self._kept)
        desk._standing = self._standing
        return desk

    def __eq__(self, other):
        return isinstance(other, Desk) and self._standing == other._standing and self._deeds == other._deeds


def kept_at(kept, name):
    """What is kept by any value as its name, None if nothing is."""
    return kept.get(name) if isinstance(name, str) else None


def found_in(kept, kind, values):
    """The values of a line with what is kept in the place of names; Twice and NoName for those that are wrong."""
    forms = list(forms_of(kind))
    if forms[:1] == ["new"] and values[0] in kept:
        raise Twice(values[0])
    found = []
    for form, value in zip(forms, values):
        if form == "sets":
            found.append([named(kept, "set", name) for name in value])
        elif form in NAMES and form != "new":
            found.append(named(kept, form, value))
        else:
            found.append(value)
    return found


def named(kept, form, name):
    """What is kept by a name; NoName if it is nothing, or not what the line wants."""
    value = kept_at(kept, name)
    if value is None:
        raise NoName(name)
    if form == "set" and not isinstance(value, Machine):
        raise NoName(name)
    if form == "point" and not isinstance(value, Point):
        raise NoName(name)
    return value
