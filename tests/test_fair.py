"""Points [8.1] and [8.5]: begins, shares, indices, and two places painted alike."""

from fractions import Fraction
from itertools import combinations, product

from takenjoined.errors import NoBegin, NoColours, NoIndex, NoneGood, NoPainting, NoPlace, SamePlace
from takenjoined.fair import alike_chance, fair_drawer, index_of, many_on, painting_at, shares
from takenjoined.paintings import is_good, painted, paintings
from takenjoined.webs import Web
from tests.things import (
    Judging, all_tied, crowded, form, ladder, no_index, no_integer, odd_things, otherwise, petersen, ring_of, triangle,
    webs_of, wheel,
)


def few_webs():
    """List webs small enough for all paintings, some with selfties and alike ties."""
    webs = [web for many in (1, 2, 3) for web in webs_of(many, 3)][::2] + webs_of(4, 2)[::2] + [all_tied(4), wheel()]
    return webs + [ring_of(5), Web(5, ((0, 4), (1, 4), (0, 4), (2, 3))), Web(5, ()), Web(4, ((1, 3), (0, 3), (1, 3)))]


def good_ones(web, q):
    """List all good paintings by the document's words."""
    whole = product(range(q), repeat=web.many)
    return [painting for painting in whole if all(painting[u] != painting[v] for u, v in web.ties)]


def begins_of(web, q):
    """List all begins of a web's paintings, good or not, those of fewest colours first, then ascending."""
    return [begin for size in range(web.many + 1) for begin in product(range(q), repeat=size)]


class Begins(Judging):

    def test_by_all_paintings(self):
        for web in few_webs():
            for q in (1, 2, 3, 4):
                if q ** web.many < 600:
                    good = good_ones(web, q)
                    for begin in begins_of(web, q):
                        due = [painting for painting in good if painting[:len(begin)] == begin]
                        self.assert_same(many_on(web, q, begin), len(due))
                        if len(begin) < web.many:
                            each = [sum(painting[len(begin)] == colour for painting in due) for colour in range(q)]
                            self.assert_same(shares(web, q, begin), tuple(each))

    def test_greater_webs(self):
        for web in (crowded(), petersen(), ring_of(10), Web(10, ()), Web(10, tuple((k, 9) for k in range(9)))):
            for q in range(1, 7):
                many = painted(web, q)
                self.assert_same(many_on(web, q, ()), many)
                begin = ()
                while len(begin) < web.many and many:
                    told = shares(web, q, begin)
                    self.assertEqual(sum(told), many_on(web, q, begin))
                    begin += (max(colour for colour in range(q) if told[colour]),)
                    self.assert_same(many_on(web, q, begin), told[begin[-1]])
                if many:
                    self.assertTrue(is_good(web, q, begin))
                    self.assert_same(many_on(web, q, begin), 1)

    def test_by_hand(self):
        self.assert_same(many_on(triangle(), 3, ()), 6)
        self.assert_same(many_on(triangle(), 3, (2,)), 2)
        self.assert_same(many_on(triangle(), 3, (2, 2)), 0)
        self.assert_same(many_on(triangle(), 3, (2, 0, 1)), 1)
        self.assert_same(shares(triangle(), 3, ()), (2, 2, 2))
        self.assert_same(shares(triangle(), 3, (1,)), (1, 0, 1))
        self.assert_same(shares(triangle(), 4, (1, 3)), (1, 0, 1, 0))
        self.assert_same(shares(Web(1, ((0, 0),)), 2, ()), (0, 0))
        self.assert_same(many_on(Web(2, ((1, 1),)), 2, (0,)), 0)
        self.assert_same(many_on(Web(2, ((0, 0),)), 2, (0, 1)), 0)
        self.assert_same(many_on(Web(10, ()), 6, ()), 6 ** 10)

    def test_no_colours(self):
        for thing in no_integer() + [0, -1, 7, 10 ** 9]:
            for call in (many_on, shares, painting_at, index_of):
                for other in ((), 0, None, (0, 1, 2), [9]):
                    self.assert_kept(NoColours, call, triangle(), thing, other)
            self.assert_kept(NoColours, alike_chance, triangle(), thing, 0, 1)
            self.assert_kept(NoColours, alike_chance, triangle(), thing, None, None)

    def test_no_begin(self):
        right = [form(begin) for begin in begins_of(triangle(), 2)]
        wrong = odd_things() + [(2,), (-1,), (0, 2), (0, 1, 2), (0, 0, 0, 0), (0,) * 99999, [0], 0, (0, False)]
        for thing in wrong + otherwise((0, 1)) + otherwise((1, 0, 1)):
            if form(thing) not in right:
                for web in (triangle(), Web(3, ((0, 0),)), Web(3, ())):
                    self.assert_kept(NoBegin, many_on, web, 2, thing)
                    self.assert_kept(NoBegin, shares, web, 2, thing)
        for web in (triangle(), Web(3, ())):
            for begin in product(range(2), repeat=3):
                self.assert_kept(NoBegin, shares, web, 2, begin)
        self.assert_kept(NoBegin, shares, Web(1, ()), 1, (0,))


class Indices(Judging):

    def test_there_and_back(self):
        for web in few_webs():
            for q in (1, 2, 3, 4, 5, 6):
                if q ** web.many < 2000:
                    good = good_ones(web, q)
                    for index in range(0, len(good), 1 + len(good) // 40):
                        self.assert_same(painting_at(web, q, index), good[index])
                        self.assert_same(index_of(web, q, good[index]), index)

    def test_greater_webs(self):
        for web in (petersen(), ring_of(10), crowded()):
            good = paintings(web, 3)
            for index in list(range(0, len(good), 1 + len(good) // 30)) + [len(good) - 1]:
                self.assert_same(painting_at(web, 3, index), good[index])
                self.assert_same(index_of(web, 3, good[index]), index)
            many = painted(web, 6)
            for index in (0, 1, many // 3, many - 1):
                self.assert_same(index_of(web, 6, painting_at(web, 6, index)), index)

    def test_no_index(self):
        for web, many in ((triangle(), 6), (Web(3, ()), 27), (Web(3, ((0, 0),)), 0), (all_tied(4), 0)):
            for thing in no_index(many) + [many, many + 1, -1, True, False, 10 ** 20 - 1]:
                self.assert_kept(NoIndex, painting_at, web, 3, thing)
        self.assert_same(painting_at(triangle(), 3, 5), (2, 1, 0))
        self.assert_kept(NoIndex, painting_at, triangle(), 1, 0)

    def test_no_painting(self):
        right = [form(painting) for painting in good_ones(triangle(), 4)]
        for thing in odd_things() + otherwise((0, 1, 2)) + [(0, 0, 1), (0, 1, 4), (0, 1), ()]:
            if form(thing) not in right:
                self.assert_kept(NoPainting, index_of, triangle(), 4, thing)
        self.assert_kept(NoPainting, index_of, Web(1, ((0, 0),)), 2, (0,))


class TwoPlaces(Judging):

    def test_by_all_paintings(self):
        for web in few_webs():
            for q in range(1, 6):
                if q ** web.many < 4000:
                    good = good_ones(web, q)
                    for one, other in product(range(web.many), repeat=2):
                        if one == other:
                            self.assert_kept(SamePlace, alike_chance, web, q, one, other)
                        elif not good:
                            self.assert_kept(NoneGood, alike_chance, web, q, one, other)
                        else:
                            due = Fraction(sum(painting[one] == painting[other] for painting in good), len(good))
                            told = alike_chance(web, q, one, other)
                            self.assert_same(told, (due.numerator, due.denominator))

    def test_by_hand(self):
        self.assert_same(alike_chance(triangle(), 3, 0, 2), (0, 1))
        self.assert_same(alike_chance(Web(2, ()), 6, 1, 0), (1, 6))
        self.assert_same(alike_chance(Web(2, ()), 1, 0, 1), (1, 1))
        self.assert_same(alike_chance(ring_of(4), 3, 0, 2), (2, 3))
        self.assert_same(alike_chance(ring_of(4), 2, 3, 1), (1, 1))

    def test_fact_of_two_places(self):
        for web in (petersen(), ring_of(10), Web(10, crowded().ties[:15]), Web(7, ladder().ties[:6])):
            many = painted(web, 4)
            for one, other in list(combinations(range(web.many), 2))[::4]:
                top, bottom = alike_chance(web, 4, one, other)
                others = painted(Web(web.many, web.ties + ((one, other),)), 4)
                self.assertEqual(Fraction(top, bottom), 1 - Fraction(others, many))
        # Sixteen ties, where none more can be put.
        top, bottom = alike_chance(crowded(), 3, 0, 2)
        good = paintings(crowded(), 3)
        self.assertEqual(Fraction(top, bottom), Fraction(sum(p[0] == p[2] for p in good), len(good)))

    def test_order_of_errors(self):
        for thing in no_index(3) + [3, -1]:
            for web in (triangle(), Web(3, ((0, 0),))):
                self.assert_kept(NoPlace, alike_chance, web, 3, thing, 0)
                self.assert_kept(NoPlace, alike_chance, web, 3, 0, thing)
                self.assert_kept(NoPlace, alike_chance, web, 3, thing, thing)
        for web in (triangle(), Web(3, ((0, 0),))):
            for place in range(3):
                self.assert_kept(SamePlace, alike_chance, web, 2, place, place)
        self.assert_kept(NoneGood, alike_chance, triangle(), 2, 0, 1)
        self.assert_kept(NoneGood, alike_chance, Web(2, ((0, 0),)), 6, 0, 1)


class FairDrawer(Judging):

    def test_shares_or_all_alike(self):
        for web in few_webs():
            for q in (1, 2, 3):
                if q ** web.many < 300 and good_ones(web, q):
                    drawer = fair_drawer(web, q)
                    for begin in begins_of(web, q):
                        if len(begin) < web.many:
                            told = shares(web, q, begin)
                            self.assert_same(drawer(begin), told if sum(told) else (1,) * q)

    def test_by_hand(self):
        drawer = fair_drawer(triangle(), 3)
        self.assert_same([drawer(begin) for begin in ((), (0,), (2, 0))], [(2, 2, 2), (0, 1, 1), (0, 1, 0)])
        self.assert_same([drawer(begin) for begin in ((1, 1), (0, 0))], [(1, 1, 1), (1, 1, 1)])
        self.assertIsNot(fair_drawer(triangle(), 3), drawer)
        # Each call keeps to its own web and its own number of colours.
        other = fair_drawer(Web(3, ((0, 1),)), 2)
        self.assert_same(drawer((0, 1)), (0, 0, 1))
        self.assert_same(other((0, 1)), (1, 1))

    def test_errors(self):
        for thing in no_integer() + [0, -1, 7, 10 ** 9]:
            self.assert_kept(NoColours, fair_drawer, triangle(), thing)
            self.assert_kept(NoColours, fair_drawer, Web(1, ((0, 0),)), thing)
        for web, q in ((triangle(), 2), (Web(1, ((0, 0),)), 6), (all_tied(6), 5), (petersen(), 1)):
            self.assert_kept(NoneGood, fair_drawer, web, q)
