"""Points [0.2] and [0.3]: the questions by which all arguments are judged."""

import unittest

from takenjoined.kinds import is_below, is_between, is_integer, is_lot, is_order, is_pair
from tests.things import no_index, odd_things


class Kinds(unittest.TestCase):

    def test_integers(self):
        for thing in (0, 1, -1, 10 ** 20 - 1, 1 - 10 ** 20):
            self.assertIs(is_integer(thing), True)
        for thing in odd_things() + [(), (0,), (0, 1)]:
            self.assertIs(is_integer(thing), False)

    def test_bounds(self):
        self.assertEqual([k for k in range(-9, 9) if is_between(k, -3, 2)], [-3, -2, -1, 0, 1, 2])
        self.assertEqual([k for k in range(-9, 9) if is_below(k, 4)], [0, 1, 2, 3])
        self.assertEqual([k for k in range(-9, 9) if is_below(k, 0)], [])
        for thing in no_index(2):
            self.assertIs(is_below(thing, 2), False)
            self.assertIs(is_between(thing, 0, 1), False)

    def test_pairs(self):
        for thing in ((0, 1), (None, None), ((), [])):
            self.assertIs(is_pair(thing), True)
        for thing in ((), (0,), (0, 1, 2), [0, 1], "01", b"01", {0: 1, 1: 2}, range(2), None, 2):
            self.assertIs(is_pair(thing), False)

    def test_lots(self):
        for thing in ((), (0,), (3,), (0, 3), (0, 1, 2, 3)):
            self.assertIs(is_lot(thing, 4), True)
        wrong = [(4,), (-1,), (-1, 0), (0, 0), (1, 0), (0, 2, 1), (0, 1, 1), (0, 4), (1, 3, 5), (0, True), (False, 1)]
        for thing in wrong + odd_things() + [0, 3, [0, 3]]:
            self.assertIs(is_lot(thing, 4), False)
        self.assertIs(is_lot((), 0), True)
        self.assertIs(is_lot((0,), 0), False)

    def test_orders(self):
        for thing in ((0, 1, 2), (2, 0, 1), (2, 1, 0)):
            self.assertIs(is_order(thing, 3), True)
        wrong = [(), (0, 1), (0, 1, 2, 3), (0, 1, 1), (1, 2, 3), (0, 1, 3), (-1, 0, 1), (0, True, 2), (False, 1, 2)]
        for thing in wrong + odd_things() + [[0, 1, 2], "012", range(3), (0, "1", 2), (0, None, []), 3]:
            self.assertIs(is_order(thing, 3), False)
        self.assertIs(is_order((0,), 1), True)
        self.assertIs(is_order((False,), 1), False)
