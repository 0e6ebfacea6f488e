"""Point [124]: a desk at which structures are looked at and changed in all their versions."""

import random
import unittest

from asifcopied.changes import heaps_of
from asifcopied.desk import Desk
from asifcopied.errors import BadWide
from asifcopied.texts import read_story

from plain import not_numbers, odd_values
from plain_desk import PlainDesk


def way_word(way):
    return ".".join(map(str, way)) if way else "."


def value_word(value):
    if isinstance(value, list):
        return "@" + way_word(value)
    return "none" if value is None else str(value)


class TestDesk(unittest.TestCase):
    def drawn_way(self, rng, wide, least=0):
        return tuple(rng.randrange(wide) for _ in range(rng.choice([least, 1, 1, 2, 2, 3])))

    def drawn_value(self, rng, wide):
        return rng.choice([None, 0, 1, -5, 2, list(self.drawn_way(rng, wide)), [], list(self.drawn_way(rng, wide))])

    def turn(self, rng, desk, plain):
        """A drawn line, and what the plain desk says of it."""
        wide = plain.wide
        kind = rng.choice(["set"] * 3 + ["make"] * 4 + ["read", "same", "at", "back", "on", "to", "since", "when", "unlike", "least"])
        way, other = self.drawn_way(rng, wide), self.drawn_way(rng, wide)
        if kind in ("set", "make"):
            way = self.drawn_way(rng, wide, 1)
            values = [self.drawn_value(rng, wide) for _ in range(1 if kind == "set" else wide)]
            return " ".join([kind, way_word(way)] + list(map(value_word, values))), plain.change(way, values, kind == "make")
        if kind == "read":
            return "read " + way_word(way), plain.read(way)
        if kind == "same":
            return "same " + way_word(way) + " " + way_word(other), plain.same(way, other)
        if kind in ("back", "on"):
            return kind, plain.back() if kind == "back" else plain.on()
        if kind == "since":
            return "since " + way_word(way), plain.since(way)
        if kind == "when":
            value = rng.choice([None, 0, 1, -5, 2])
            return "when " + way_word(way) + " " + value_word(value), plain.when(way, value)
        version = rng.randrange(len(plain.heaps) + 1)
        if kind == "at":
            return "at", "version " + str(plain.at)
        told = {"to": plain.to, "unlike": plain.unlike, "least": plain.least}[kind](version)
        return kind + " " + str(version), told

    def test_against_copies(self):
        answers = {}
        for seed in range(60):
            rng = random.Random(seed)
            wide = 1 + seed % 3
            desk, plain = Desk(wide), PlainDesk(wide)
            for _ in range(50):
                line, told = self.turn(rng, desk, plain)
                answer = desk.say(line)
                self.assertEqual(answer, told, line)
                answers[answer.split(" ")[0]] = answers.get(answer.split(" ")[0], 0) + 1
            text = desk.say("text")
            self.assertEqual(read_story(text), (plain.story, wide))
            self.assertEqual(heaps_of(plain.story, wide), tuple(plain.heaps))
        for word in ["version", "nothing", "no", "yes", "none", "record", "never"]:
            self.assertGreater(answers[word], 10, word)

    def test_by_hand(self):
        desk = Desk(wide=2)
        for line, answer in [("make 0 1 none", "version 1"), ("set 0.0 2", "version 2"), ("back", "version 1"),
                             ("make 0 5 @0", "version 3"), ("read 0.1.0", "1"), ("same 0 0.1", "no"), ("when 0.0 1", "1-1"),
                             ("unlike 2", "2 0.0 1.0"), ("read 0.0.0", "nothing at 2"), ("set 0.0.1 7", "no record"),
                             ("on", "none"), ("set . 3", "what")]:
            self.assertEqual(desk.say(line=line), answer, line)
        self.assertEqual(desk.say("text"), "story 2 3\nfrom 0 2\nmake 1 none\nset 0 0 @1\nfrom 1 1\nset 1 0 2\n"
                                           "from 1 2\nmake 5 @1\nset 0 0 @2\n")

    def test_going(self):
        desk = Desk(1)
        for line, answer in [("at", "version 0"), ("back", "none"), ("on", "none"), ("to 1", "none"), ("set 0 1", "version 1"),
                             ("set 0 2", "version 2"), ("to 0", "version 0"), ("set 0 3", "version 3"), ("back", "version 0"),
                             ("on", "version 3"), ("on", "none"), ("at", "version 3"), ("back", "version 0"), ("back", "none"),
                             ("to 2", "version 2"), ("back", "version 1"), ("on", "version 2"), ("to 999999999999999999", "none"),
                             ("at", "version 2"), ("unlike 4", "none"), ("least 4", "none"), ("unlike 2", "1"), ("least 3", "1")]:
            self.assertEqual(desk.say(line), answer, line)

    def test_several_wrong_ways(self):
        """The first one in the line is told, the way that is set ahead of those in values; and nothing is done."""
        desk = Desk(2)
        self.assertEqual(desk.say("make 0 7 none"), "version 1")
        before = desk.say("text")
        for line, answer in [("set 0.0.0.1 @1", "nothing at 2"), ("set 0.0.0 @1.0", "no record"), ("set 0 @1.0", "nothing at 1"),
                             ("set 0.1 @0.0", "no record"), ("make 0.0.1 @1.1.1 @0.0", "no record"),
                             ("make 0 @1.1.1 @0.0", "nothing at 1"), ("make 0 @0.0 @1.1.1", "no record"), ("make 1 @0 @0.1", "no record"),
                             ("make 1.0.0 none none", "nothing at 1"), ("make 1.0 none none", "no record"), ("set 1.0 none", "no record"),
                             ("same 1.0 0.0.0", "nothing at 1"), ("same 0.0.0 1.0", "nothing at 2"), ("same 0 0.0.1", "nothing at 2"),
                             ("same 0.0 0.0", "no"), ("same 1 1", "no"), ("same 0 0", "yes"), ("same . 0", "no"), ("same . .", "yes"),
                             ("read 1.0.0", "nothing at 1"), ("read 1", "none"), ("read .", "record"), ("read 0.0", "7"),
                             ("set 0.1.1 5", "no record"), ("set 0.1.1.1 5", "nothing at 2")]:
            self.assertEqual(desk.say(line), answer, line)
            self.assertEqual((desk.say("at"), desk.say("text")), ("version 1", before))
        self.assertEqual(desk.say("set 0.1 @."), "version 2")
        self.assertEqual((desk.say("same 0.1 ."), desk.say("read 0.1.0.0")), ("yes", "7"))

    def test_what(self):
        desk = Desk(2)
        desk.say("make 0 7 none")
        before = desk.say("text")
        lines = ["", " ", "what", "at ", " at", "at 0", "AT", "At", "back 1", "on ", "text ", "text 1", "to", "to ", "to x", "to -1", "to 01",
                 "to +1", "to 1 1", "to none", "to @0", "to 1111111111111111111", "read", "read ", "read 2", "read 0.2", "read 0.", "read .0",
                 "read ..", "read 0..0", "read 00", "read -1", "read -0", "read 0 0", "read @0", "read none", "read 0,0", "same 0",
                 "same 0 0 0", "same 0 2", "same", "same @0 0", "set", "set 0", "set . 1", "set . none", "set 2 1", "set 0 01", "set 0 @",
                 "set 0 @2", "set 0 @0.2", "set 0 @@0", "set 0 1 1", "set 0 -0", "set 0 +1", "set 0  1", "set 0 1 ", "set 0 x", "set @0 1",
                 "set 0 None", "set 0 1000000000000000000", "make 0", "make 0 1", "make 0 1 1 1", "make . 1 1", "make 2 1 1", "make 0 x 1",
                 "make 0 1 @2", "since", "since 2", "since 0 0", "when", "when 0", "when 0 @0", "when 0 @.", "when 0 x", "when 2 1",
                 "when 0 1 1", "when 0 -0", "unlike", "unlike x", "unlike -1", "unlike 0 0", "unlike 00", "least", "least .", "least 0 ",
                 "drop 0", "at\n", "read 0\n", "set 0 1\n", "set 0 1.0", "since @0"]
        for line in lines + odd_values() + [["at"], ("at",), b"at"]:
            self.assertEqual(desk.say(line), "what", line)
        self.assertEqual((desk.say("at"), desk.say("text")), ("version 1", before))

    def test_since_and_when_where_there_is_nothing(self):
        desk = Desk(1)
        for line in ["make 0 1", "set 0 none", "set 0 none", "set 0 4"]:
            desk.say(line)
        # At version 0 the way 0.0 leads to nothing at all, at 1 to 1, behind that to nothing again.
        self.assertEqual([desk.say("since 0.0"), desk.say("when 0.0 1"), desk.say("when 0.0 none")], ["version 2", "1-1", "never"])
        self.assertEqual([desk.say("when 0 none"), desk.say("when 0 4"), desk.say("when 0 5")], ["0-0 2-3", "4-4", "never"])
        desk.say("to 3")
        self.assertEqual((desk.say("since 0.0"), desk.say("since 0"), desk.say("since .")), ("version 2", "version 2", "version 0"))
        desk.say("to 0")
        self.assertEqual(desk.say("when 0.0 1"), "1-1")

    def test_bad_wide(self):
        for bad in not_numbers(1, 6):
            with self.assertRaises(BadWide):
                Desk(bad)
        for value in odd_values():
            self.assertFalse(Desk(1) == value)

    def test_a_long_row(self):
        desk = Desk(2)
        for number in range(1200):
            answer = desk.say("make 1 " + str(number) + " @1") if number else desk.say("make 1 0 none")
            self.assertEqual(answer, "version " + str(number + 1))
        self.assertEqual(desk.say("read " + ".".join(["1"] * 1200) + ".0"), "0")
        self.assertEqual(desk.say("when 1.0 700"), "701-701")
        self.assertEqual(desk.say("since 1.1.1.0"), "version 1200")
        self.assertEqual((desk.say("to 1"), desk.say("least 1200"), desk.say("unlike 1200")), ("version 1", "1200", "2 0.1"))
        self.assertEqual(len(read_story(desk.say("text"))[0]), 1200)


if __name__ == "__main__":
    unittest.main()
