"""Points [0.2] and [0.3]: the questions by which all arguments are judged."""

import unittest

from takenjoined.kinds import (
    is_alike, is_below, is_between, is_colours, is_few_colours, is_flags, is_integer, is_integers, is_lot, is_numeral,
    is_order, is_pair,
)
from takenjoined.webs import Web
from tests.things import nested, no_colours, no_index, no_integer, odd_things


class Kinds(unittest.TestCase):

    def test_integers(self):
        for thing in (0, 1, -1, 10 ** 20 - 1, 1 - 10 ** 20):
            self.assertIs(is_integer(thing), True)
        for thing in odd_things() + [(), (0,), (0, 1)]:
            self.assertIs(is_integer(thing), False)

    def test_bounds(self):
        self.assertEqual([k for k in range(-9, 9) if is_between(k, -3, 2)], [-3, -2, -1, 0, 1, 2])
        self.assertEqual([k for k in range(-9, 9) if is_below(k, 4)], [0, 1, 2, 3])
        self.assertEqual([k for k in range(-9, 9) if is_below(k, 0)], [])
        for thing in no_index(2):
            self.assertIs(is_below(thing, 2), False)
            self.assertIs(is_between(thing, 0, 1), False)

    def test_numbers_of_colours(self):
        for thing in (0, 1, 6, 7, 10 ** 9 - 1, 10 ** 9):
            self.assertIs(is_colours(thing), True)
        for thing in no_colours():
            self.assertIs(is_colours(thing), False)
        self.assertEqual([k for k in range(-9, 19) if is_few_colours(k)], [1, 2, 3, 4, 5, 6])
        for thing in no_integer() + [10 ** 9, 10 ** 20 - 1]:
            self.assertIs(is_few_colours(thing), False)

    def test_tuples_of_integers(self):
        for thing in ((), (0,), (-1, 5, 10 ** 20), (7,) * 65):
            self.assertIs(is_integers(thing), True)
        for thing in odd_things() + [[0], (0, True), (0, "1"), (1, (2,)), (1, None), 3]:
            self.assertIs(is_integers(thing), False)

    def test_pairs(self):
        for thing in ((0, 1), (None, None), ((), [])):
            self.assertIs(is_pair(thing), True)
        for thing in ((), (0,), (0, 1, 2), [0, 1], "01", b"01", {0: 1, 1: 2}, range(2), None, 2):
            self.assertIs(is_pair(thing), False)

    def test_lots(self):
        for thing in ((), (0,), (3,), (0, 3), (0, 1, 2, 3)):
            self.assertIs(is_lot(thing, 4), True)
        wrong = [(4,), (-1,), (-1, 0), (0, 0), (1, 0), (0, 2, 1), (0, 1, 1), (0, 4), (1, 3, 5), (0, True), (False, 1)]
        for thing in wrong + odd_things() + [0, 3, [0, 3]]:
            self.assertIs(is_lot(thing, 4), False)
        self.assertIs(is_lot((), 0), True)
        self.assertIs(is_lot((0,), 0), False)

    def test_orders(self):
        for thing in ((0, 1, 2), (2, 0, 1), (2, 1, 0)):
            self.assertIs(is_order(thing, 3), True)
        wrong = [(), (0, 1), (0, 1, 2, 3), (0, 1, 1), (1, 2, 3), (0, 1, 3), (-1, 0, 1), (0, True, 2), (False, 1, 2)]
        for thing in wrong + odd_things() + [[0, 1, 2], "012", range(3), (0, "1", 2), (0, None, []), 3]:
            self.assertIs(is_order(thing, 3), False)
        self.assertIs(is_order((0,), 1), True)
        self.assertIs(is_order((False,), 1), False)

    def test_tuples_of_flags(self):
        for thing in ((), (True,), (False,), (True, False, False), (True,) * 20000):
            self.assertIs(is_flags(thing), True)
        for thing in [thing for thing in odd_things() if thing != (True,) and thing != (False,)]:
            self.assertIs(is_flags(thing), False)
        for thing in ((0,), (1,), (True, 1), (True, None), [True], (True, (False,)), True, "+"):
            self.assertIs(is_flags(thing), False)

    def test_numerals(self):
        for thing in ("0", "1", "9", "10", "123456789", "999999999", "100000000"):
            self.assertIs(is_numeral(thing), True)
        wrong = ["", "00", "01", "0123", "1234567890", "-1", "+1", "1 ", " 1", "1\n", "a", "1a", "1_0", "1.", "--", " "]
        for thing in wrong + odd_things() + [0, 5, b"5", ("5",), ["5"], ("1", "2")]:
            self.assertIs(is_numeral(thing), thing == "0")

    def test_equal_also_in_kind(self):
        things = [0, 1, True, False, "1", b"1", None, (), [], (1,), [1], (True,), [True], {0: 1}, {0: True}, {}]
        things += [Web(1, ()), (1, [0]), (1, [False]), (1, (0,)), {0: [(1,)]}, {0: [(True,)]}]
        things += [nested(list, 40, 1), nested(list, 40, True)]
        for at, one in enumerate(things):
            for other_at, other in enumerate(things):
                self.assertIs(is_alike(one, other), at == other_at, (one, other))
        for kind in (list, tuple, dict):
            self.assertIs(is_alike(nested(kind, 40, (0, True)), nested(kind, 40, (0, True))), True)
            self.assertIs(is_alike(nested(kind, 40, (0, True)), nested(kind, 40, (False, True))), False)
        self.assertIs(is_alike({0: 1, 1: [2]}, {1: [2], 0: 1}), True)
        self.assertIs(is_alike([0] * 99999, [0] * 99998 + [False]), False)
