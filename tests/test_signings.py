"""Points [4.1], [4.2]: signings, rounds, sources, and the pairs that fit."""

from itertools import permutations, product

from takenjoined.counts import numbers, worth
from takenjoined.errors import NoColours, NoSigning, TooMany
from takenjoined.signings import fits, fitting, is_fitting, is_signing, rising, round_of, sources
from takenjoined.webs import Web
from tests.things import (
    Judging, all_tied, crowded, form, ladder, no_colours, odd_things, otherwise, petersen, ring_of, small_webs,
    triangle, webs_of, wheel,
)


def signings(web):
    return list(product((False, True), repeat=len(web.ties)))


def goings(web, signing):
    return [(u, v) if flag else (v, u) for (u, v), flag in zip(web.ties, signing)]


def has_round(web, signing):
    """Tell by all orders of the places whether there is a round."""
    ways = goings(web, signing)
    orders = permutations(range(web.many))
    return not any(all(order.index(one) < order.index(other) for one, other in ways) for order in orders)


def is_round(web, signing, thing):
    """Tell whether a thing are the ties of a round, as they are gone through."""
    if type(thing) is not tuple or not thing or not all(type(tie) is int for tie in thing):
        return False
    ways = [goings(web, signing)[tie] for tie in thing]
    begins = [one for one, _ in ways]
    ahead = begins[1:] + begins[:1]
    return min(thing) >= 0 and ahead == [other for _, other in ways] and len(set(begins)) == len(begins)


def few_webs():
    """List webs of which all signings are looked at."""
    webs = [web for many in (1, 2, 3) for web in webs_of(many, 3)] + webs_of(4, 2)
    webs += [Web(4, ((0, 1), (1, 2), (2, 3), (0, 3))), Web(3, ((0, 1), (0, 2), (0, 1), (1, 2), (1, 2))), all_tied(4)]
    return webs + [Web(2, ((0, 1),) * 4), Web(4, ((0, 3), (1, 3), (2, 3), (1, 2), (2, 2)))]


class Signings(Judging):

    def test_is_signing(self):
        for web in few_webs():
            for signing in signings(web):
                self.assertIs(is_signing(web, signing), True)
                self.assertIs(is_signing(web, signing + (True,)), False)
                self.assertIs(is_signing(web, list(signing)), False)
        for signing in signings(triangle()):
            right = [form(row) for row in signings(triangle())]
            for thing in otherwise(signing):
                self.assertIs(is_signing(triangle(), thing), form(thing) in right, thing)

    def test_what_is_no_signing(self):
        for web in (Web(1, ((0, 0),)), triangle(), petersen(), Web(1, ())):
            right = [form(row) for row in signings(web)] if len(web.ties) < 4 else []
            for thing in odd_things() + [(), (0,), (1, 0, 1), (True, False, 1), "+-+"]:
                due = form(thing) in right
                self.assertIs(is_signing(web, thing), due)
                if not due:
                    self.assert_kept(NoSigning, round_of, web, thing)
                    self.assert_kept(NoSigning, sources, web, thing)

    def test_round_of(self):
        for web in few_webs():
            for signing in signings(web):
                told = round_of(web, signing)
                if has_round(web, signing):
                    self.assertTrue(is_round(web, signing, told), (web.ties, signing, told))
                else:
                    self.assertIsNone(told)

    def test_round_of_greater_webs(self):
        self.assertIsNone(round_of(Web(10, ()), ()))
        self.assertIsNone(round_of(petersen(), (True,) * 15))
        for web in (ring_of(10), petersen(), crowded(), wheel(), ladder(), Web(1, ((0, 0),) * 16)):
            risen = rising(web)
            # A tie that goes down among such as go up, and the other way round.
            for at in range(len(web.ties)):
                for flag in (True, False):
                    signing = (flag,) * at + (not flag,) + (flag,) * (len(web.ties) - at - 1)
                    told = round_of(web, signing)
                    self.assertTrue(told is None or is_round(web, signing, told))
                    self.assertEqual(told is None, signing in risen)
        around = ring_of(10)
        signing = tuple(tie != (0, 9) for tie in around.ties)
        told = round_of(around, signing)
        self.assertTrue(is_round(around, signing, told))
        self.assertEqual(len(told), 10)
        self.assertEqual(len(round_of(around, tuple(not flag for flag in signing))), 10)

    def test_rising(self):
        self.assertEqual(len(rising(triangle())), 6)
        self.assert_same(rising(Web(3, ())), [()])
        self.assert_same(rising(Web(2, ((0, 1),) * 3)), [(False,) * 3, (True,) * 3])
        self.assert_same(rising(Web(2, ((0, 1), (1, 1)))), [])
        for web in few_webs():
            self.assert_same(rising(web), [signing for signing in signings(web) if not has_round(web, signing)])

    def test_rising_of_greater_webs(self):
        for web in (petersen(), crowded(), wheel(), ring_of(9), ladder()):
            told = rising(web)
            self.assertEqual(len(told), abs(worth(numbers(web), -1)))
            self.assertEqual(told, sorted(set(told)))
            for signing in told[::97]:
                self.assert_same(is_signing(web, signing), True)
                self.assertIsNone(round_of(web, signing))
        told.append(0)
        self.assertEqual(rising(ladder()), [])

    def test_sources(self):
        web = Web(5, ((0, 1), (1, 2), (2, 2), (0, 2), (3, 3)))
        self.assert_same(sources(web, (True,) * 5), (0, 4))
        self.assert_same(sources(web, (False, True, False, False, True)), (1, 4))
        self.assert_same(sources(Web(3, ()), ()), (0, 1, 2))
        self.assert_same(sources(Web(1, ((0, 0),)), (True,)), ())
        self.assert_same(sources(triangle(), (True, False, True)), ())
        for web in few_webs():
            for signing in signings(web):
                due = [p for p in range(web.many) if all(other != p for _, other in goings(web, signing))]
                self.assert_same(sources(web, signing), tuple(due))

    def test_changes_nothing(self):
        web = wheel()
        ahead = form(web)
        signing = rising(web)[7]
        self.assertEqual(round_of(web, (True,) * 8), round_of(web, (True,) * 8))
        self.assertEqual(sources(web, signing), sources(web, signing))
        self.assertEqual(fitting(web, 1), fitting(web, 1))
        self.assertEqual(form(web), ahead)


def fitting_ones(web, q):
    """List the fitting pairs out of all pairs."""
    found = []
    for signing in signings(web):
        if not has_round(web, signing):
            ways = goings(web, signing)
            paintings = product(range(q), repeat=web.many)
            fit = [row for row in paintings if all(row[one] <= row[other] for one, other in ways)]
            found += [(signing, row) for row in fit]
    return found


class Fitting(Judging):

    def test_examples(self):
        self.assert_same(fits(triangle(), 1), 6)
        edge = Web(2, ((0, 1),))
        self.assert_same(fitting(edge, 1), [((False,), (0, 0)), ((True,), (0, 0))])
        self.assert_same(fitting(edge, 0), [])
        self.assert_same(fitting(Web(1, ((0, 0),)), 2), [])
        self.assert_same(fitting(Web(1, ()), 2), [((), (0,)), ((), (1,))])

    def test_all_ascending(self):
        for web in few_webs():
            for q in range(4 if web.many < 4 else 3):
                due = fitting_ones(web, q)
                self.assert_same(fitting(web, q), due)
                self.assert_same(fitting(web, q), sorted(due))
                self.assert_same(fits(web, q), len(due))

    def test_greater_webs(self):
        for web, q in ((petersen(), 1), (wheel(), 3), (ring_of(7), 2), (all_tied(6), 2), (Web(10, ()), 2)):
            told = fitting(web, q)
            self.assertEqual(len(told), fits(web, q))
            self.assertEqual(told, sorted(set(told)))
            self.assertTrue(all(is_fitting(web, q, pair) for pair in told[::37]))

    def test_fourth_fact(self):
        for web in small_webs():
            told = numbers(web)
            for q in (0, 1, 2, 7, 10 ** 9):
                due = sum(number * (-q) ** place for place, number in enumerate(told))
                self.assert_same(fits(web, q), abs(due))

    def test_new_each_time(self):
        fitting(triangle(), 1).clear()
        self.assertEqual(len(fitting(triangle(), 1)), 6)

    def test_too_many(self):
        self.assertEqual(len(fitting(Web(1, ()), 20000)), 20000)
        self.assertEqual(len(fitting(Web(2, ()), 141)), 19881)
        self.assertEqual(len(fitting(Web(2, ((0, 1),)), 140)), 140 * 141)
        for web, q in ((Web(1, ()), 20001), (Web(2, ()), 142), (Web(2, ((0, 1),)), 141), (Web(10, ()), 10 ** 9)):
            self.assertEqual(self.assert_kept(TooMany, fitting, web, q).most, 20000)
        self.assert_same(fitting(Web(2, ((1, 1),)), 10 ** 9), [])

    def test_no_colours(self):
        for thing in no_colours():
            for web in (triangle(), Web(1, ((0, 0),)), Web(10, ())):
                self.assert_kept(NoColours, fits, web, thing)
                self.assert_kept(NoColours, fitting, web, thing)
                self.assert_kept(NoColours, is_fitting, web, thing, None)

    def test_is_fitting(self):
        for web in few_webs():
            for q in range(3):
                due = fitting_ones(web, q)
                for signing in signings(web):
                    for row in product(range(max(q, 1)), repeat=web.many):
                        self.assertIs(is_fitting(web, q, (signing, row)), (signing, row) in due)

    def test_one_thing_otherwise(self):
        for web, q in ((triangle(), 3), (Web(2, ((0, 1), (0, 1))), 2), (Web(1, ()), 1)):
            right = [form(pair) for pair in fitting_ones(web, q)]
            for pair in fitting(web, q):
                for thing in otherwise(pair):
                    self.assertIs(is_fitting(web, q, thing), form(thing) in right, thing)

    def test_what_is_no_pair(self):
        for web, q in ((triangle(), 3), (Web(2, ()), 2), (Web(1, ()), 1)):
            right = [form(pair) for pair in fitting_ones(web, q)]
            for wrong in odd_things() + [()]:
                for thing in (wrong, (wrong, (0, 0)), ((), wrong), ((True,) * 3, wrong), (wrong, wrong)):
                    self.assertIs(is_fitting(web, q, thing), form(thing) in right)
