"""[29]: the text of a world, written and read."""

from mergerates.errors import (
    BadNumber, BadParting, BadTable, BadText, MergeError, NotFiner, OtherSize,
)
from mergerates.worlds import World
from tests import plain
from tests.case import NO_INTEGERS, NO_PARTINGS, Case

S = (0, 1, 2)
T = (0, 0, 1)
W = (0, 0, 0)
EXAMPLE = [(S, T, 2), (S, W, 1), (T, W, 4)]
GOOD = "012 > 000 : 1"

WRONG_FIRST = ("", "names", "names ", "names 0", "names 7", "names 10", "names 03", "names  3", "names 3 ",
               " names 3", "Names 3", "name 3", "names\t3", "names 3\r", "names +3", "names 3.", "names a",
               "names \u0663", "names \u00b3", "3", GOOD)
# Each wrong further line with the error that refuses it.
WRONG_NEXT = (
    ("", BadTable), (" ", BadTable), ("012", BadTable), ("names 3", BadTable),
    ("012 > 000 : ", BadTable), ("012 > 000 :", BadTable), ("012 > 000", BadTable),
    ("012 > 000 : 01", BadTable), ("012 > 000 : 00", BadTable), ("012 > 000 : -1", BadTable),
    ("012 > 000 : +1", BadTable), ("012 > 000 : 1.0", BadTable), ("012 > 000 : 1_0", BadTable),
    ("012 > 000 : 1 ", BadTable), (" 012 > 000 : 1", BadTable), ("012  > 000 : 1", BadTable),
    ("012 >  000 : 1", BadTable), ("012 > 000: 1", BadTable), ("012>000 : 1", BadTable),
    ("012 >000 : 1", BadTable), ("012 < 000 : 1", BadTable), ("012 : 000 > 1", BadTable),
    ("012 > 000 ; 1", BadTable), ("012\t> 000 : 1", BadTable), ("012 > 000 : 1\r", BadTable),
    ("012 > 000 : 1\x0b012 > 001 : 1", BadTable), ("012 > 000 : 1\u2028", BadTable),
    ("0,1,2 > 000 : 1", BadTable), ("0-12 > 000 : 1", BadTable), ("012 > 0a0 : 1", BadTable),
    ("012 > 000 : \u0661", BadTable), ("012 > 000 : \u00b2", BadTable), ("01\u0662 > 000 : 1", BadTable),
    ("012 > 00\u0660 : 1", BadTable), ("012 > 000 : " + "1" * 41, BadTable), ("012 > 000 : x", BadTable),
    ("012 > 000 : 1 : 1", BadTable), (" > 000 : 1", BadParting), ("012 >  : 1", BadParting),
    ("102 > 000 : 1", BadParting), ("013 > 000 : 1", BadParting), ("012 > 100 : 1", BadParting),
    ("0123456 > 0000000 : 1", BadParting), ("01 > 00 : 1", OtherSize), ("0123 > 000 : 1", OtherSize),
    ("012 > 0000 : 0", OtherSize), ("000 > 012 : 1", NotFiner), ("012 > 012 : 0", NotFiner),
    ("001 > 011 : 1", NotFiner),
)


class Writing(Case):
    def test_29_lines(self):
        self.same(World(3, EXAMPLE).lines(), "names 3\n001 > 000 : 4\n012 > 000 : 1\n012 > 001 : 2")
        for n in range(1, 7):
            self.same(World(n).lines(), f"names {n}")

    def test_29_ascending_lines_of_the_moves(self):
        for n in range(1, 5):
            w = World(n, plain.some_moves(n))
            told = ["".join(map(str, p)) + " > " + "".join(map(str, r)) + f" : {rate}" for p, r, rate in w.moves]
            self.same(w.lines().split("\n"), [f"names {n}", *told])

    def test_line_of(self):
        self.same(World.line_of((S, T, 2)), "012 > 001 : 2")
        self.same(World.line_of([[0, 1], [0, 0], 0]), "01 > 00 : 0")
        self.same(World(2).line_of(((0, 1, 2, 3, 4, 5), (0, 0, 0, 0, 0, 0), 10 ** 45)),
                  "012345 > 000000 : 1" + "0" * 45)

    def test_line_of_refuses(self):
        for wrong in (None, 3, "abc", (), (S, T), (S, T, 1, 1)):
            self.refuses(BadTable, 0, World.line_of, wrong)
        for wrong in (*NO_INTEGERS, -1):
            self.refuses(BadTable, 0, World.line_of, (None, None, wrong))
        for wrong, _ in NO_PARTINGS:
            self.refuses(BadParting, 0, World.line_of, (wrong, S, 1))
            self.refuses(BadParting, 0, World.line_of, ((0, 1), wrong, 1))
        self.refuses(OtherSize, 2, World.line_of, (S, (0, 0), 1))
        self.refuses(OtherSize, 3, World.line_of, ((0, 0), S, 1))
        for p, r in ((S, S), (W, S), (T, (0, 1, 1))):
            self.refuses(NotFiner, 0, World.line_of, (p, r, 1))
            self.refuses(NotFiner, 0, World.line_of, (p, r, 0))


class Reading(Case):
    def test_29_what_is_written_is_read(self):
        for n in range(1, 7):
            w = World(n, plain.some_moves(n), times=10 ** 13)
            self.assertEqual(World.read(w.lines()), w)
            self.assertEqual(World.read(World(n).lines()), World(n))

    def test_any_order_and_several_times(self):
        text = "names 3\n012 > 001 : 1\n001 > 000 : 4\n012 > 000 : 1\n012 > 010 : 0\n012 > 001 : 1"
        self.same(World.read(text).moves, World(3, EXAMPLE).moves)
        self.same(World.read("names 1").moves, ())

    def test_forty_digits(self):
        great = 10 ** 40 - 1
        self.same(World.read(f"names 2\n01 > 00 : {great}").moves, (((0, 1), (0, 0), great),))
        self.refuses(BadText, 2, World.read, f"names 2\n01 > 00 : {great + 1}")

    def test_always_a_world(self):
        class Below(World):
            KIND = "below"
        for maker in (World, Below, Below(2)):
            found = maker.read(text="names 2\n01 > 00 : 3")
            self.assertIs(type(found), World)
            self.same(found.KIND, "world")

    def test_no_string(self):
        for wrong in (None, 3, b"names 3", ["names 3"], True):
            self.refuses(BadText, 0, World.read, wrong)

    def wrong_line(self, line, text, cause):
        found = self.refuses(BadText, line, World.read, text)
        self.assertIs(type(found.__cause__), cause)
        self.assertIsInstance(found.__cause__, MergeError)

    def test_first_line(self):
        for wrong in WRONG_FIRST:
            self.wrong_line(1, wrong, BadNumber)
            self.wrong_line(1, wrong + "\nx", BadNumber)

    def test_further_lines(self):
        for wrong, cause in WRONG_NEXT:
            self.wrong_line(2, f"names 3\n{wrong}", cause)
            self.wrong_line(3, f"names 3\n{GOOD}\n{wrong}\nx", cause)
            self.wrong_line(4, f"names 3\n{GOOD}\n{GOOD}\n{wrong}\n{GOOD}", cause)

    def test_empty_lines(self):
        self.wrong_line(2, "names 3\n", BadTable)
        self.wrong_line(3, f"names 3\n{GOOD}\n", BadTable)
        self.wrong_line(2, f"names 3\n\n{GOOD}", BadTable)
        self.wrong_line(1, "\nnames 3", BadNumber)

    def test_only_line_feeds_part_lines(self):
        for sign in ("\r", "\x0b", "\x0c", "\x1c", "\x85", "\u2028"):
            self.wrong_line(1, f"names 3{sign}{GOOD}", BadNumber)
            self.wrong_line(2, f"names 3\n{GOOD}{sign}{GOOD}", BadTable)
