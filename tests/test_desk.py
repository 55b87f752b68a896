import itertools

from sevenball.crossings import Carry, Crossing
from sevenball.desk import Desk
from sevenball.errors import BadLine, BadMachine, BadPoint, NoName, Nothing, Thin, TooMany, Twice
from sevenball.lots import Lot
from sevenball.machines import Machine
from sevenball.made import cone, ending, everything, lengths, of_letters
from sevenball.points import Point
from sevenball.tables import counts, just
from sevenball.tails import beyond, covering, lead, lost_tail, uncovered
from sevenball.texts import story
from sevenball.words import Word
from tests.values import EVEN, HUGE, NOT_STRINGS, Case, some_function

ONE = "0 0 0 0 0 0 0 0"
START = ("set even " + str(EVEN), "cone a1 A", "ending z A", "letters great ABCD", "point p 33 -4 -36 / 49", "point q 0 0 5",
         "point r 3 6 -2 / 7", "lot ab AB AC")
FAR = "ABcD" * 15


def started(*lines):
    return Desk.read([*START, *lines])


def state(desk):
    return desk.lines(), desk.names(), [str(desk.answers(["first " + name, "text " + name])) for name in desk.names()]


class DeskCase(Case):
    def stays(self, desk, error, line):
        """The line raises an error, and nothing changes."""
        before, twin = state(desk), desk.twin()
        self.refuses(error, desk.tell, line)
        self.assertEqual(state(desk), before)
        self.assertEqual(desk, twin)


class Telling(DeskCase):
    def test_sets(self):
        desk = Desk()
        for line, wanted in (
            ("set even " + str(EVEN), EVEN), ("cone a1 " + FAR, cone(Word(FAR))), ("cone all -", everything()), ("ending z AbC", ending(Word("AbC"))),
            ("lengths third 3 1", lengths(3, [1])), ("lengths one 1 0", lengths(1, [0])), ("lengths last 12 11", lengths(12, [11])),
            ("letters great ABCDAaAa", of_letters("ABCDAaAa")), ("letters a a", of_letters("a")), ("lot none", Lot([]).machine()),
            ("lot ab AB AC", Lot([Word("AB"), Word("AC")]).machine()), ("lot many - A B C D AB " + FAR[:20] + " aa", everything()),
            ("copy other third", lengths(3, [1])), ("copy abcdefgh1234 other", lengths(3, [1])),
        ):
            first = wanted.first()
            self.assertEqual(desk.tell(line=line), "none" if first is None else str(first))
            self.assertEqual(desk.set_of(line.split(" ")[1]), wanted)
            self.assertEqual(desk.lines()[-1], line)
        for line, name, wanted in (
            ("both third even", "third", lengths(3, [1]) & EVEN), ("either z a", "z", ending(Word("AbC")) | of_letters("a")),
            ("less all great", "all", ~of_letters("ABCDa")), ("others great", "great", ~of_letters("ABCDa")), ("turn even Ab", "even", EVEN),
            ("turn z " + FAR, "z", (ending(Word("AbC")) | of_letters("a")).turned(Word(FAR))), ("less ab ab", "ab", cone(Word()) - everything()),
            ("others ab", "ab", everything()), ("both last last", "last", lengths(12, [11])),
        ):
            first = wanted.first()
            self.assertEqual(desk.tell(line), "none" if first is None else str(first))
            self.assertEqual(desk.set_of(name=name), wanted)
        # What is done to the one changes nothing of the other.
        self.assertEqual(desk.set_of("other"), lengths(3, [1]))
        self.assertEqual(desk.names(), tuple(sorted(desk.names())))

    def test_points(self):
        desk = started("copy s p", "copy t r")
        self.assertEqual(desk.tell("turn p " + FAR), str(Point(33, -4, -36, 49).turned(Word(FAR)).word))
        self.assertEqual(desk.point_of("s"), Point(33, -4, -36, 49))
        for count in range(1, 7):
            ball, point = Crossing(EVEN, count).there(desk.point_of("s"))
            self.assertEqual(desk.tell(f"send s even {count}"), f"{ball} {point.word}")
            self.assertEqual(desk.point_of(name="s"), point)
            self.assertEqual(desk.tell(f"fetch s even {count} {ball}"), "AB")
            for other in range(count):
                come = Crossing(EVEN, count).back(other, desk.point_of("r"))
                self.assertEqual(desk.tell(f"fetch r even {count} {other}"), str(come.word))
                desk.tell("undo")
        carry = Carry(cone(Word("A")), EVEN)
        self.assertEqual(desk.tell("carry t a1 even"), str(carry(Point(3, 6, -2, 7)).word))
        self.assertEqual(desk.point_of("t"), carry(Point(3, 6, -2, 7)))
        self.assertEqual(desk.tell("bring t a1 even"), "A")
        self.assertEqual(desk.point_of("t"), Point(3, 6, -2, 7))
        self.assertEqual(desk.tell("point new 6 2 3 / 7"), "C")
        self.assertEqual(desk.tell("forget new"), "new")
        self.assertEqual(desk.tell("forget even"), "even")
        self.assertNotIn("even", desk.names())
        self.assertEqual(desk.tell("point even 1 0 0"), "-")

    def test_asks_of_sets(self):
        desk = started("lot none", "less none none", "lengths third 3 1")
        sets = {name: desk.set_of(name) for name in ("even", "a1", "z", "great", "ab", "none", "third")}
        told = [Word(letters) for letters in ("", "A", "AB", "b", "CAb")]

        def text(word):
            return "none" if word is None else str(word)

        for name, machine in sets.items():
            self.assertEqual(desk.tell("first " + name), text(machine.first()))
            for many in (0, 1, 2, 60):
                self.assertEqual(desk.tell(f"many {name} {many}"), str(machine.counted(many)))
            for many in range(3):
                self.assertEqual(desk.tell(f"words {name} {many}"), " ".join(map(str, machine.listed(many))) or "none")
            for word in told:
                self.assertEqual(desk.tell(f"takes {name} {word}"), "yes" if machine.takes(word) else "no")
                self.assertEqual(desk.tell(f"lead {name} {word}"), text(lead(machine, word)))
            for point in "pqr":
                self.assertEqual(desk.tell(f"holds {name} {point}"), "yes" if machine.holds(desk.point_of(point)) else "no")
            for other, further in sets.items():
                apart = machine.apart(further)
                self.assertEqual(desk.tell(f"same {name} {other}"), "same" if apart is None else str(apart))
                paper = just([machine, further], everything(), 1)
                wanted = "just" if paper else f"uneven {paper.word} {paper.found}"
                self.assertEqual(desk.tell(f"just 1 {name} {other}"), wanted)
                pairs = [f"{many} {word}" for many, word in counts([machine, further, machine])]
                self.assertEqual(desk.tell(f"counts {name} {other} {name}"), " | ".join(pairs))
            lost = lost_tail(machine)
            self.assertEqual(desk.tell("lost " + name), text(lost))
            paper = covering(machine)
            self.assertEqual(desk.tell("copies " + name), " ".join(map(str, paper.turns)) if paper else f"lost {paper.word}")
            for many in (0, 2, 5):
                wanted = text(uncovered(machine, told[:many]))
                self.assertEqual(desk.tell(" ".join(["missing", name, *map(str, told[:many])])), wanted)
            for many in (0, 3, 100):
                if lost is None:
                    self.stays(desk, BadMachine("machine"), f"beyond {name} {many}")
                else:
                    self.assertEqual(desk.tell(f"beyond {name} {many}"), str(beyond(machine, many)))
        self.assertEqual(desk.tell("just 60 even"), "uneven - 1")
        self.assertEqual(desk.tell("just 0 none"), "just")
        self.assertEqual(desk.tell("just 8" + " even" * 8), "uneven A 0")
        self.assertEqual(desk.tell("missing even" + " A" * 20), "-")
        self.assertEqual(desk.tell("takes even " + FAR), "yes")
        self.assertEqual(desk.lines(), (*START, "lot none", "less none none", "lengths third 3 1"))

    def test_asks_of_points(self):
        desk = started()
        for name in "pqr":
            point = desk.point_of(name)
            answers = [desk.tell(f"{kind} {name}") for kind in ("word", "height", "bare", "text", "story")]
            self.assertEqual(answers, [str(point.word), str(point.height), str(point.bare), str(point), " | ".join(story(point))])


class Lines(DeskCase):
    def test_what_is_no_line(self):
        desk = started()
        for value in NOT_STRINGS:
            self.stays(desk, BadLine(0), value)
        for line, item in (
            ("", 0), (" ", 0), ("sets x", 0), ("Set x", 0), ("set", 1), ("set x", 2), ("set x ", 2), ("set x +", 3), ("set X + " + ONE, 1),
            ("set 1x + " + ONE, 1), ("set x + 0 0 0 0 0 0 0", 10), ("set x + 0 0 0 0 0 0 0 1", 10), ("set x + " + ONE + " /", 12),
            ("set x + " + ONE + " + " + ONE, 11), ("set x * " + ONE, 2), ("set x + " + ONE + " ", 11), ("cone x", 2), ("cone x A B", 3),
            ("cone x Aa", 2), ("cone x " + FAR + "A", 2), ("cone x  A", 2), ("cone abcdefgh12345 A", 1), ("cone a_b A", 1), ("cone \u00e9 A", 1), ("cone aB A", 1),
            ("ending x", 2), ("ending x E", 2), ("lengths x 0 0", 2), ("lengths x 13 0", 2), ("lengths x 3 3", 3), ("lengths x 3 -1", 3),
            ("lengths x 3", 3), ("lengths x 03 1", 2), ("lengths x 3 1 1", 4), ("lengths x 1000000 1", 2), ("letters x", 2), ("letters x ABCDabcdA", 2),
            ("letters x E", 2), ("letters x ", 2), ("letters x A B", 3), ("letters x -", 2), ("lot x A B C D A B C D A", 10), ("lot x A " + FAR[:21], 3),
            ("lot x A Aa", 3), ("lot x ", 2), ("lot", 1), ("point x", 2), ("point x 1 1 1", 4), ("point x 1 0", 4), ("point x 1 0 0 0", 5),
            ("point x 1 0 0 /", 6), ("point x 2 0 0 / 2", 6), ("point x 1 0 0 / 2 0", 7), ("point x 1 0 0 / 1", 6), ("point x a 0 0", 2),
            ("copy x", 2), ("copy x p q", 3), ("copy x P", 2), ("both even", 2), ("both even a1 z", 3), ("both", 1), ("either even A1", 2),
            ("less even", 2), ("others", 1), ("others even a1", 2), ("turn p", 2), ("turn p " + FAR + "A", 2), ("turn p A A", 3), ("turn p bB", 2),
            ("send p even 0", 3), ("send p even 7", 3), ("send p even", 3), ("send p even 1 0", 4), ("send p even -", 3), ("fetch p even 3 3", 4),
            ("fetch p even 3 -1", 4), ("fetch p even 3", 4), ("fetch p even 7 0", 3), ("fetch p even 3 0 0", 5), ("carry p even", 3),
            ("carry p even z a1", 4), ("bring p even", 3), ("bring P even a1", 1), ("forget", 1), ("forget p q", 2), ("first", 1), ("first even a1", 2),
            ("many even", 2), ("many even 61", 2), ("many even -1", 2), ("words even 3", 2), ("words even -1", 2), ("just -1 even", 1), ("words even 1 1", 3), ("takes even", 2),
            ("takes even " + FAR + "A", 2), ("takes even E", 2), ("holds even", 2), ("holds even P", 2), ("same even", 2), ("lost", 1), ("lost z A", 2),
            ("lead z", 2), ("lead z Aa", 2), ("copies", 1), ("copies z z", 2), ("missing", 1), ("missing z" + " A" * 21, 22), ("missing z A Aa B", 3),
            ("missing z A " + FAR + "A", 3), ("beyond z", 2), ("beyond z 101", 2), ("beyond z -1", 2), ("beyond z 0100", 2), ("just", 1), ("just 1", 2),
            ("just 61 even", 1), ("just even", 1), ("just 1" + " even" * 9, 10), ("just 1 even Z", 3), ("counts", 1), ("counts" + " even" * 9, 9),
            ("counts even E", 2), ("word", 1), ("word p q", 2), ("height 1p", 1), ("bare", 1), ("text p p", 2), ("story", 1), ("undo 1", 1), ("undo ", 1),
            ("redo x", 1), ("undo  ", 1), ("none", 0), ("tell x", 0), ("sphere", 0),
        ):
            self.stays(desk, BadLine(item), line)
        for line in ("set x " + " / ".join(["+ " + ONE] * 4001),):
            self.stays(desk, TooMany("standings", 4000), line)

    def test_each_item_bent(self):
        desk = started()
        lines = ["set x + " + ONE, "cone x A", "ending x A", "lengths x 3 1", "letters x AB", "point x 1 0 0 / 2", "copy x p", "both even a1",
                 "turn p A", "send p even 3", "fetch p even 3 1", "carry p even a1", "bring p even a1", "forget p", "many even 2", "words even 1",
                 "takes even A", "holds even p", "same even a1", "lead z A", "beyond z 3", "word p", "others even", "first z", "lot x A B"]
        for line in lines:
            items = line.split(" ")
            desk.twin().tell(line)
            for at in range(len(items)):
                self.stays(desk, BadLine(at), " ".join([*items[:at], "?", *items[at + 1:]]))
                self.stays(desk, BadLine(at), " ".join([*items[:at], "", *items[at:]]))
                if at > 0 and not (items[0] == "lot" and at > 1) and not (items[0] == "point" and at == 5):
                    self.assertLessEqual(self.item_of(desk, " ".join(items[:at])), at)
            if items[0] != "lot":
                self.stays(desk, BadLine(len(items)), line + " A!")

    def item_of(self, desk, line):
        with self.assertRaises(BadLine) as caught:
            desk.twin().tell(line)
        return caught.exception.item

    def test_order_of_errors(self):
        desk = started()
        for line, error in (
            ("cone p Aa", BadLine(2)), ("cone p A", Twice("p")), ("copy p lake", Twice("p")), ("copy x lake", NoName("lake")), ("copy lake lake", NoName("lake")),
            ("both p lake", NoName("p")), ("both lake p", NoName("lake")), ("both even p", NoName("p")), ("send lake sea 2", NoName("lake")),
            ("send even p 2", NoName("even")), ("send p q 2", NoName("q")), ("send p z 2", Thin(lost_tail(ending(Word("A"))))),
            ("send r even 2", BadPoint("value")), ("fetch p great 2 0", Thin(Word("a"))), ("carry r even z", Thin(Word("B"))),
            ("carry r z great", Thin(Word("B"))), ("carry r even a1", BadPoint("value")), ("bring q even a1", BadPoint("value")), ("turn lake A", NoName("lake")),
            ("forget lake", NoName("lake")), ("holds p even", NoName("p")), ("holds even z", NoName("z")), ("just 2 even lake p", NoName("lake")),
            ("counts even p lake", NoName("p")), ("word even", NoName("even")), ("first p", NoName("p")), ("redo", Nothing()), ("lost p", NoName("p")),
            ("same lake sea", NoName("lake")), ("set p + " + ONE, Twice("p")), ("point even 1 0 0", Twice("even")), ("lot p", Twice("p")),
            ("lengths p 2 1", Twice("p")), ("letters p A", Twice("p")), ("ending p -", Twice("p")), ("others p", NoName("p")), ("less even even1", NoName("even1")),
        ):
            if isinstance(error, Thin):
                with self.assertRaises(Thin) as caught:
                    desk.tell(line)
                self.assertEqual(vars(caught.exception), vars(error))
            else:
                self.stays(desk, error, line)
        self.stays(Desk(), Nothing(), "undo")
        self.stays(Desk(), BadLine(1), "undo x")

    def test_names(self):
        names = ["a", "z9", "abcdefghijkl", "a12345678901", "set", "undo", "none", "cone", "first", "error", "lot"]
        desk = Desk()
        for name in names:
            desk.tell("cone " + name + " A")
            self.assertEqual(desk.tell("first " + name), "A")
        self.assertEqual(desk.names(), tuple(sorted(names)))
        self.assertEqual(desk.tell("just 11 " + " ".join(names[:8])), "uneven - 0")
        for name in ("abcdefghijklm", "", "9", "A", "a-b", "a.b", "\u00e4", "a\n", "\u0661a", "a\u0661"):
            self.refuses(BadLine(1), desk.tell, f"cone {name} A")
            self.refuses(BadLine(1), desk.tell, f"first {name}")
        for value in (*[value for value in NOT_STRINGS if value != "A"], "A", "lake", "", "p q"):
            self.refuses(NoName(value), desk.set_of, value)
            self.refuses(NoName(value), desk.point_of, value)
        self.refuses(NoName("p"), started().set_of, "p")
        self.refuses(NoName("even"), started().point_of, "even")


class Bounds(DeskCase):
    def test_letters(self):
        desk = started("turn q " + FAR, *["turn q " + FAR] * 15, "turn q " + FAR[:40])
        self.assertEqual(desk.point_of("q").height, 1000)
        desk.tell("copy s q")
        self.stays(desk, TooMany("letters", 1000), "turn q A")
        self.stays(desk, TooMany("letters", 1000), "fetch q even 2 1")
        self.assertEqual(desk.tell("turn q a"), desk.tell("word q"))
        far = Point(1, 0, 0).turned(Word("ABcD" * 250 + "A"))
        self.stays(desk, TooMany("letters", 1000), "point t " + str(far))
        self.stays(desk, Twice("q"), "point q " + str(far))
        beyond_words = Point(1, 0, 0).turned(Word("ABcD" * 850))
        self.stays(desk, TooMany("letters", 1000), "point t " + str(beyond_words))
        self.assertEqual(desk.tell("point t " + str(Point(1, 0, 0).turned(Word("ABcD" * 250)))), "ABcD" * 250)

    def test_deeds(self):
        desk = Desk.read(["cone a A", *["turn a B"] * 199])
        self.assertEqual(len(desk.lines()), 200)
        self.assertEqual(desk.tell("first a"), "B" * 199 + "A")
        self.stays(desk, TooMany("lines", 200), "cone b A")
        self.stays(desk, TooMany("lines", 200), "turn a B")
        self.stays(desk, TooMany("lines", 200), "forget a")
        self.stays(desk, Twice("a"), "cone a A")
        self.stays(desk, NoName("b"), "turn b A")
        self.stays(desk, BadLine(2), "turn a Bb")
        self.assertEqual(desk.tell("many a 60"), "0")
        self.assertEqual(desk.tell("undo"), "turn a B")
        self.assertEqual(desk.tell("point p 1 0 0"), "-")
        self.stays(desk, TooMany("letters", 1000), "point q " + str(Point(1, 0, 0).turned(Word("ABcD" * 251))))
        self.stays(desk, BadPoint("value"), "send p a 1")
        self.stays(desk, TooMany("lines", 200), "turn p A")
        self.stays(desk, Nothing(), "redo")

    def test_sets_put_together_with_themselves(self):
        rows = Machine([(True, [1, 0, 2, 3, 0, 1, 2, 3]), (False, [2, 1, 0, 3, 3, 1, 0, 2]), (True, [0, 3, 1, 2, 1, 0, 3, 2]), (False, [3, 2, 1, 0, 2, 3, 0, 1])])

        def run():
            for deeds in (["both s s"], ["either s s", "turn s A", "either s s", "turn s a"], ["copy t s", "turn t A", "both s t", "forget t"],
                          ["others s", "less s t", "either t s", "both t s"]):
                desk = Desk.read(["set s " + str(rows), "set t " + str(EVEN)] + ["forget t"] * (deeds[0] == "copy t s"))
                for line in itertools.islice(itertools.cycle(deeds), 200 - len(desk.lines())):
                    desk.tell(line)
                    name = "s" if "s" in desk.names() else "t"
                    desk.answers(["first " + name, "many s 60", "words s 2", "lost s", "just 1 s s", "takes s ABc"])
                self.assertEqual(len(desk.lines()), 200)
        self.comes_soon(run)


class Back(DeskCase):
    def test_undo_and_redo(self):
        desk = Desk()
        lines = [*START, "turn p a", "copy x even", "both x a1", "others x", "turn p b", "forget even", "turn x A", "lot even"]
        states = [state(desk)]
        for line in lines:
            desk.tell(line)
            states.append(state(desk))
        self.stays(desk, Nothing(), "redo")
        for at in range(len(lines), 0, -1):
            self.assertEqual(desk.tell("undo"), lines[at - 1])
            self.assertEqual(state(desk), states[at - 1])
        self.stays(desk, Nothing(), "undo")
        for at, line in enumerate(lines):
            self.assertEqual(desk.tell("redo"), line)
            self.assertEqual(state(desk), states[at + 1])
        self.stays(desk, Nothing(), "redo")
        # An ask, or a line that raises, leaves what was taken back; a deed makes it be gone.
        desk.tell("undo"), desk.tell("undo"), desk.tell("undo")
        desk.tell("first x")
        self.refuses(BadLine(0), desk.tell, "what")
        self.refuses(Twice("x"), desk.tell, "cone x A")
        self.assertEqual(desk.tell("redo"), lines[-3])
        desk.tell("cone y A")
        self.refuses(Nothing(), desk.tell, "redo")
        self.assertEqual(desk.lines(), (*lines[:-2], "cone y A"))

    def test_twins(self):
        desk = started("turn p a", "cone x A")
        desk.tell("undo")
        twin = desk.twin()
        self.assertEqual(twin, desk)
        self.assertEqual(twin.tell("redo"), "cone x A")
        self.assertNotEqual(twin, desk)
        self.assertEqual(desk.tell("redo"), "cone x A")
        self.assertEqual(twin, desk)
        twin.tell("forget x")
        self.assertIn("x", desk.names())
        self.assertEqual(desk.tell("undo"), "cone x A")
        self.refuses(NoName("x"), twin.tell, "first x")
        self.assertEqual(twin.lines()[-1], "forget x")

    def test_equality(self):
        one, other = started(), started()
        self.assertEqual(one, other)
        one.tell("cone x A"), one.tell("undo")
        self.assertNotEqual(one, other)
        other.tell("cone x A"), other.tell("undo")
        self.assertEqual(one, other)
        other.tell("redo")
        self.assertNotEqual(one, other)
        self.assertEqual(Desk(), Desk())
        for value in (None, True, (), [], "", START, HUGE, some_function, Desk, EVEN):
            self.assertIs(one == value, False)
        self.assertNotEqual(Desk.read(["cone x A", "cone y A"]), Desk.read(["cone y A", "cone x A"]))

    def test_read(self):
        desk = Desk.read(lines=[*START, "undo", "redo", "undo", "first even", "cone x A"])
        self.assertEqual(desk.lines(), (*START[:-1], "cone x A"))
        self.assertEqual(Desk.read(desk.lines()), desk)
        self.assertEqual(Desk.read(()), Desk())
        for value in (None, True, 1, "", "cone x A", {}, {"cone x A": 1}, some_function, Word("A"), HUGE):
            self.refuses(BadLine(0), Desk.read, value)
            self.refuses(BadLine(0), desk.answers, value)
        self.refuses(Twice("x"), Desk.read, ["cone x A", "cone x A", "what"])
        self.refuses(BadLine(0), Desk.read, ["cone x A", None, "cone x A"])
        self.refuses(BadLine(2), Desk.read, ["cone x", "what"])

    def test_answers(self):
        desk = started()
        lines = ["cone a1 B", "first p", "send p z 2", "send r even 2", "cone x A", "what", 7, "redo", "beyond even 3", "undo", "redo", "lengths x 1 1",
                 "point y " + str(Point(1, 0, 0).turned(Word("ABcD" * 251))), "set y " + " / ".join(["+ " + ONE] * 4001), ["undo"]]
        self.assertEqual(desk.answers(lines=lines), (
            "error Twice a1", "error NoName p", "error Thin B", "error BadPoint value", "A", "error BadLine 0", "error BadLine 0", "error Nothing",
            "error BadMachine machine", "cone x A", "cone x A", "error BadLine 3", "error TooMany letters 1000", "error TooMany standings 4000",
            "error BadLine 0"))
        self.assertEqual(desk.answers(()), ())
        self.assertEqual(desk.answers(("letters none A", "turn none A", "lost none", "send p none 1")), ("-", "A", "B", "error Thin B"))
        self.assertEqual(len(lines), 15)
