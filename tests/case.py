"""What the tests share: how a refusal is asked for, and how answers are compared."""

import unittest

from mergerates import errors

ATTRIBUTES = {
    errors.BadNumber: "word", errors.BadParting: "place", errors.BadLot: "place",
    errors.OtherSize: "size", errors.BadTable: "place", errors.BadText: "line",
    errors.NotFiner: "place", errors.NotInside: "place", errors.TooMany: "count",
    errors.NotJoins: "parting", errors.NotFair: "parting", errors.NotOneLot: "parting",
    errors.BadTriple: "triple",
}

# Values that are no integers, though some of them look like one.
NO_INTEGERS = (True, False, None, 1.0, "1", (1, 1), [1])
# Values that are no fractions and no integers.
NO_AMOUNTS = (True, None, 0.5, "1/2", (2, 4), (1, 0), (1, -2), (0, 2), [1, 2], (1,), (1, 2, 3), (True, 2),
              (1, True), (1.0, 2), ())
# Partings that are none, each with the place at which the labels go wrong.
NO_PARTINGS = (
    ((), -1), ([], -1), (None, -1), (0, -1), ("00", -1), ({0: 0}, -1), (iter((0,)), -1),
    ((1,), 0), ((-1,), 0), ((None,), 0), ((False,), 0), ((0, 2), 1), ((0, True), 1), ((0, 0, 1.0), 2),
    ((0, 1, -1), 2), ((1, 0, 1, 2), 0), ((0, 1, 3, 9), 2), ((0, (1,)), 1),
    ((0, 0, 0, 0, 0, 0, 0), 6), ((0, 1, 2, 3, 4, 5, 6), 6), ([0, 0, 0, 0, 0, 0, 9, 9], 6),
)


class Case(unittest.TestCase):
    def refuses(self, kind, told, call, *arguments, **named):
        """The call raises exactly this class, with this value in its attribute."""
        with self.assertRaises(kind) as held:
            call(*arguments, **named)
        self.assertIs(type(held.exception), kind)
        self.assertEqual(repr(getattr(held.exception, ATTRIBUTES[kind])), repr(told))
        return held.exception

    def same(self, found, expected):
        """Equal, and of the same kinds inside: a list is no tuple here, and True is no 1."""
        self.assertEqual(repr(found), repr(expected))
