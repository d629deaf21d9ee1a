"""Points [8.2] to [8.4]: drawers, their chances, where they are unfair, and what they paint by throws."""

from fractions import Fraction
from itertools import product
from zlib import crc32

from takenjoined.errors import BadThrow, NoColours, NoneGood, NoPainting, NoPlace, NoWeights, TooMany
from takenjoined.fair import chance, drawn, fair_drawer, first_unfair, is_unfair, shares, unfair
from takenjoined.webs import Web
from tests.test_fair import begins_of, good_ones
from tests.things import (
    Judging, all_tied, form, nested, no_integer, odd_things, otherwise, petersen, ring_of, triangle, wheel,
)

WRONG = [
    (0, 0, 0), (1, 2), (1, 2, 3, 4), [1, 2, 3], (1, 2, True), (1, 0, False), (10 ** 9, 0, 0), (1, -1, 1), (1, None, 1),
    (1, "2", 3), None, 3, "abc", {0: 1, 1: 1, 2: 1}, (), (1, 2, (3,)), (10 ** 20, 1, 1), nested(tuple), range(1, 4),
]


def few_cases():
    """List webs and numbers of colours with which there are good paintings, but not many."""
    cases = [(Web(1, ()), 1), (Web(1, ()), 3), (Web(2, ((0, 1),)), 2), (triangle(), 3), (Web(3, ((0, 2), (0, 2))), 3)]
    return cases + [(ring_of(4), 3), (Web(3, ()), 1), (Web(4, ((0, 3), (1, 3))), 2), (wheel(), 3), (triangle(), 4)]


def good_begins(web, q):
    """List the begins of good paintings below the whole."""
    good = good_ones(web, q)
    return [begin for begin in begins_of(web, q) if len(begin) < web.many
            and any(painting[:len(begin)] == begin for painting in good)]


def any_drawer(kind, q):
    """A drawer that answers by all that it is called with, some weights being 0."""
    def drawer(begin):
        drawn_at = [crc32(repr((kind, begin, colour)).encode()) % (3 + kind % 5) for colour in range(q)]
        return tuple(drawn_at) if any(drawn_at) else (1,) * q
    return drawer


def otherwise_at(drawer, at, told):
    return lambda begin: told if begin == at else drawer(begin)


def asking(drawer, asked):
    """The same drawer, that notes what it is asked."""
    def noting(begin):
        asked.append(begin)
        return drawer(begin)
    return noting


def sound_chance(drawer, painting):
    total = Fraction(1)
    for place, colour in enumerate(painting):
        if total:
            weights = drawer(painting[:place])
            total *= Fraction(weights[colour], sum(weights))
    return total


def holds(web, q, drawer, thing):
    """Tell by the document's words whether a pair shows a drawer to be unfair."""
    one, other = thing
    good = good_ones(web, q)
    if one not in good:
        return False
    if other in good:
        return sound_chance(drawer, one) != sound_chance(drawer, other)
    return sound_chance(drawer, other) > 0


def sound_unfair(web, q, drawer):
    """Tell the first unfair begin by the document's words."""
    good = good_ones(web, q)
    for begin in good_begins(web, q):
        each = [sum(p[:len(begin) + 1] == begin + (colour,) for p in good) for colour in range(q)]
        weights = drawer(begin)
        if [Fraction(part, sum(each)) for part in each] != [Fraction(part, sum(weights)) for part in weights]:
            return begin
    return None


class Chance(Judging):

    def test_good_and_not_good(self):
        for web, q in few_cases():
            for drawer in [fair_drawer(web, q)] + [any_drawer(kind, q) for kind in range(6)]:
                total = 0
                for painting in product(range(q), repeat=web.many):
                    due = sound_chance(drawer, painting)
                    self.assert_same(chance(web, q, drawer, painting), (due.numerator, due.denominator))
                    total += due
                self.assertEqual(total, 1)

    def test_fair_drawer(self):
        for web, q in few_cases() + [(petersen(), 3), (all_tied(6), 6)]:
            drawer = fair_drawer(web, q)
            good = good_ones(web, q) if web.many < 7 else []
            for painting in good[::1 + len(good) // 50]:
                self.assert_same(chance(web, q, drawer, painting), (1, len(good)))
        self.assert_same(chance(triangle(), 3, fair_drawer(triangle(), 3), (0, 0, 1)), (0, 1))

    def test_lowest_terms_and_great_weights(self):
        web = Web(10, ())
        self.assert_same(chance(web, 2, lambda begin: (2, 4), (0,) * 9 + (1,)), (2, 3 ** 10))
        self.assert_same(chance(web, 2, lambda begin: (999999999, 0), (0,) * 10), (1, 1))
        self.assert_same(chance(web, 2, lambda begin: (999999999, 1), (0,) * 10), (999999999 ** 10, 10 ** 90))
        self.assert_same(chance(web, 2, lambda begin: (999999999, 0), (0,) * 9 + (1,)), (0, 1))
        self.assert_same(chance(web, 6, lambda begin: (0, 0, 0, 0, 0, 7), (5,) * 10), (1, 1))

    def test_begins_that_are_asked(self):
        for web, q in few_cases():
            for kind in range(4):
                drawer = any_drawer(kind, q)
                for painting in product(range(q), repeat=web.many):
                    asked = []
                    chance(web, q, asking(drawer, asked), painting)
                    due = [painting[:1 + k] for k in range(web.many - 1)
                           if sound_chance(drawer, painting[:1 + k]) > 0]
                    self.assertEqual(set(asked), {()} | set(due))

    def test_no_weights(self):
        for wrong in WRONG:
            for at in ((), (0,), (2, 1)):
                drawer = otherwise_at(lambda begin: (1, 1, 1), at, wrong)
                for painting in ((0, 1, 2), (2, 1, 0)):
                    if painting[:len(at)] == at:
                        error = self.assert_kept(NoWeights, chance, Web(3, ()), 3, drawer, painting)
                        self.assert_same(error.begin, at)
                    else:
                        self.assert_same(chance(Web(3, ()), 3, drawer, painting), (1, 27))
        # Behind a weight 0 nothing is asked.
        drawer = otherwise_at(lambda begin: (0, 1, 1), (0,), None)
        self.assert_same(chance(triangle(), 3, drawer, (0, 1, 2)), (0, 1))

    def test_order_of_errors(self):
        for thing in no_integer() + [0, -1, 7, 10 ** 9]:
            self.assert_kept(NoColours, chance, triangle(), thing, self.fail, (0, 1, 2))
            self.assert_kept(NoColours, chance, triangle(), thing, self.fail, None)
        right = [form(painting) for painting in product(range(2), repeat=3)]
        for thing in odd_things() + otherwise((0, 1, 1)) + [(), (0, 1), (0, 1, 2), [0, 1, 1]]:
            if form(thing) not in right:
                self.assert_kept(NoPainting, chance, triangle(), 2, self.fail, thing)

    def test_errors_of_a_drawer_go_on(self):
        for error in (KeyError, ValueError, NoPlace, ZeroDivisionError):
            def drawer(begin):
                if len(begin) == 1:
                    raise error()
                return (0, 1, 1)
            self.assert_kept(error, chance, triangle(), 3, drawer, (1, 1, 1))
            self.assert_same(chance(triangle(), 3, drawer, (0, 1, 1)), (0, 1))
            self.assert_kept(error, drawn, triangle(), 3, drawer, (0, 0, 0))
            for call in (first_unfair, unfair):
                self.assert_kept(error, call, Web(2, ((0, 1),)), 3, lambda begin: drawer((0,)) if begin else (1, 1, 1))


class FirstUnfair(Judging):

    def test_fair(self):
        for web, q in few_cases():
            drawer = fair_drawer(web, q)
            for factor in (1, 3, 1000):
                times = lambda begin: tuple(weight * (factor + len(begin)) for weight in drawer(begin))
                self.assert_same(first_unfair(web, q, times), None)
                self.assert_same(unfair(web, q, times), None)
        self.assert_same(unfair(Web(8, ()), 2, lambda begin: (1, 1)), None)
        self.assert_same(first_unfair(Web(10, ()), 2, lambda begin: (999999999, 999999999)), None)

    def test_otherwise_at_one_begin(self):
        for web, q in few_cases():
            fair = fair_drawer(web, q)
            for begin in good_begins(web, q):
                due = fair(begin)
                for colour in range(q):
                    told = due[:colour] + (due[colour] + 1,) + due[colour + 1:]
                    unlike = [part * sum(due) for part in told] != [part * sum(told) for part in due]
                    drawer = otherwise_at(fair, begin, told)
                    self.assert_same(first_unfair(web, q, drawer), begin if unlike else None)
                    self.assert_pair(web, q, drawer, unlike)

    def assert_pair(self, web, q, drawer, is_there):
        told = unfair(web, q, drawer)
        self.assertEqual(told is not None, is_there)
        if told is not None:
            self.assertIs(type(told), tuple)
            self.assertTrue(holds(web, q, drawer, told), (web.ties, q, told))
            self.assertIs(is_unfair(web, q, drawer, told), True)

    def test_any_drawers(self):
        for web, q in few_cases():
            for kind in range(30):
                drawer = any_drawer(kind, q)
                due = sound_unfair(web, q, drawer)
                self.assert_same(first_unfair(web, q, drawer), due)
                self.assert_pair(web, q, drawer, due is not None)

    def test_greater_webs(self):
        for web, q in ((petersen(), 3), (ring_of(10), 2), (all_tied(5), 5), (Web(10, ring_of(10).ties), 3)):
            fair = fair_drawer(web, q)
            self.assert_same(unfair(web, q, fair), None)
            for size in (0, 1, 3):
                at = fair_path(web, q, fair, size)
                drawer = otherwise_at(fair, at, tuple(weight + 1 for weight in fair(at)))
                due = None if len(set(fair(at))) == 1 else at
                self.assert_same(first_unfair(web, q, drawer), due)
                told = unfair(web, q, drawer)
                self.assertEqual(told is None, due is None)
                if told is not None:
                    self.assertIs(is_unfair(web, q, drawer, told), True)

    def test_behind_a_weight_of_0(self):
        # The second place is never asked for where the first one is never painted so.
        web = Web(2, ())
        drawer = lambda begin: (1, 0) if begin == () else ((1, 1) if begin == (0,) else None)
        self.assert_same(first_unfair(web, 2, drawer), ())
        self.assert_pair(web, 2, drawer, True)
        # At both begins it is unfair; the one of fewer colours is the first.
        web = Web(3, ((0, 1), (1, 2)))
        drawer = lambda begin: {(): (1, 1, 1), (0,): (0, 1, 1), (1,): (2, 0, 2), (2,): (1, 0, 0)}.get(begin, (1, 2, 3))
        self.assert_same(first_unfair(web, 3, drawer), (2,))
        self.assert_pair(web, 3, drawer, True)

    def test_begins_that_are_asked(self):
        for web, q in few_cases():
            ahead = good_begins(web, q)
            asked = []
            first_unfair(web, q, asking(fair_drawer(web, q), asked))
            self.assertEqual(list(dict.fromkeys(asked)), ahead)
            for kind in range(12):
                asked = []
                drawer = asking(any_drawer(kind, q), asked)
                begin = first_unfair(web, q, drawer)
                due = ahead if begin is None else ahead[:ahead.index(begin) + 1]
                self.assertEqual(list(dict.fromkeys(asked)), due)
                del asked[:]
                unfair(web, q, drawer)
                self.assertEqual(list(dict.fromkeys(asked))[:len(due)], due)

    def test_no_weights(self):
        for web, q in ((triangle(), 3), (Web(3, ((0, 2), (0, 2))), 3), (Web(2, ()), 3)):
            fair = fair_drawer(web, q)
            for at in begins_of(web, q):
                for wrong in WRONG[::3] + WRONG[:2]:
                    drawer = otherwise_at(fair, at, wrong)
                    for call in (first_unfair, unfair):
                        if at in good_begins(web, q):
                            self.assert_same(self.assert_kept(NoWeights, call, web, q, drawer).begin, at)
                        else:
                            self.assert_same(call(web, q, drawer), None)

    def test_no_weights_behind_what_is_unfair(self):
        web, q = Web(3, ()), 2
        told = []
        for at in begins_of(web, q):
            if at and len(at) < 3:
                drawer = otherwise_at(lambda begin: (1, 2), at, (0, 0))
                self.assert_same(first_unfair(web, q, drawer), ())
                try:
                    told.append(unfair(web, q, drawer))
                    self.assertIs(is_unfair(web, q, drawer, told[-1]), True)
                except NoWeights as error:
                    self.assert_same(error.begin, at)
        self.assertTrue(told)

    def test_just_more_begins_than_let(self):
        # All begins but the empty one come as often with each first colour: exactly 3000 of them are nowhere.
        fewer = Web(9, ((1, 4), (0, 8), (3, 5), (0, 1)))
        more = Web(9, ((0, 2), (2, 5), (3, 4), (3, 8), (6, 8)))
        self.assertEqual([count_begins(web, 3) for web in (fewer, more)], [2998, 3001])
        for call in (first_unfair, unfair):
            self.assert_same(call(fewer, 3, fair_drawer(fewer, 3)), None)
            self.assertEqual(self.assert_kept(TooMany, call, more, 3, self.fail).most, 3000)
            self.assertEqual(self.assert_kept(TooMany, call, Web(10, ()), 6, self.fail).most, 3000)
        self.assertIs(is_unfair(more, 3, fair_drawer(more, 3), None), False)
        self.assert_kept(NoColours, first_unfair, more, 7, self.fail)

    def test_order_of_errors(self):
        for thing in no_integer() + [0, -1, 7, 10 ** 9]:
            for web in (triangle(), Web(1, ((0, 0),))):
                self.assert_kept(NoColours, first_unfair, web, thing, self.fail)
                self.assert_kept(NoColours, unfair, web, thing, self.fail)
                self.assert_kept(NoColours, is_unfair, web, thing, self.fail, None)
        for web, q in ((triangle(), 2), (Web(10, ((9, 9),)), 6), (all_tied(6), 5)):
            self.assert_kept(NoneGood, first_unfair, web, q, self.fail)
            self.assert_kept(NoneGood, unfair, web, q, self.fail)
            for thing in (None, ((0,) * web.many, (0,) * web.many), ()):
                self.assert_kept(NoneGood, is_unfair, web, q, self.fail, thing)


def fair_path(web, q, drawer, size):
    begin = ()
    while len(begin) < size:
        begin += (max(colour for colour in range(q) if drawer(begin)[colour]),)
    return begin


def count_begins(web, q):
    level, total = [()], 0
    for _ in range(web.many):
        total += len(level)
        level = [begin + (c,) for begin in level for c, share in enumerate(shares(web, q, begin)) if share]
    return total


class IsUnfair(Judging):

    def test_all_pairs(self):
        for web, q in ((triangle(), 3), (Web(2, ((0, 1),)), 3), (Web(3, ((0, 2), (0, 2))), 2), (Web(2, ()), 2)):
            whole = list(product(range(q), repeat=web.many))
            for drawer in [fair_drawer(web, q)] + [any_drawer(kind, q) for kind in range(5)]:
                for thing in product(whole, repeat=2):
                    self.assertIs(is_unfair(web, q, drawer, thing), holds(web, q, drawer, thing))

    def test_one_thing_otherwise(self):
        web, q, drawer = triangle(), 3, any_drawer(2, 3)
        thing = unfair(web, q, drawer)
        whole = [form(painting) for painting in product(range(q), repeat=3)]
        for other in otherwise(thing) + [thing[::-1], (thing[0], thing[0])]:
            due = type(other) is tuple and len(other) == 2 and all(form(part) in whole for part in other)
            self.assertIs(is_unfair(web, q, drawer, other), due and holds(web, q, drawer, other), other)

    def test_what_is_no_pair(self):
        for thing in odd_things() + [(), ((0, 1, 2),), ((0, 1, 2),) * 3, [(0, 1, 2), (1, 2, 0)]]:
            self.assertIs(is_unfair(triangle(), 3, self.fail, thing), False)
            self.assertIs(is_unfair(triangle(), 3, self.fail, (thing, (0, 1, 2))), False)
            self.assertIs(is_unfair(triangle(), 3, self.fail, ((0, 1, 2), thing)), False)
        self.assertIs(is_unfair(triangle(), 3, self.fail, ((0, 0, 1), (0, 1, 2))), False)

    def test_no_weights_of_one_then_of_other(self):
        web, one, other = Web(2, ()), (0, 1), (1, 0)
        for wrong in ((0, 0), (1,), None, [1, 2], (True, 1)):
            for ats, due in ((((0,), (1,)), (0,)), (((1,),), (1,)), (((0,),), (0,)), (((),), ())):
                drawer = lambda begin: wrong if begin in ats else (1, 2)
                told = self.assert_kept(NoWeights, is_unfair, web, 2, drawer, (one, other))
                self.assert_same(told.begin, due)
        # Where the other one is not good the chance of the one is asked, too.
        drawer = lambda begin: None if begin == (0,) else (1, 1)
        for pair in (((0, 1), (1, 1)), ((1, 0), (0, 0))):
            told = self.assert_kept(NoWeights, is_unfair, Web(2, ((0, 1),)), 2, drawer, pair)
            self.assert_same(told.begin, (0,))
        self.assertIs(is_unfair(Web(2, ((0, 1),)), 2, drawer, ((1, 0), (1, 1))), True)


class Drawn(Judging):

    def test_all_throws(self):
        for web, q in few_cases()[:-2]:
            for drawer in [fair_drawer(web, q)] + [any_drawer(kind, q) for kind in range(4)]:
                if sum(drawer(())) ** web.many > 10 ** 5:
                    continue
                chances = {}
                self.go_through(web, q, drawer, (), (), Fraction(1), chances)
                self.assertEqual(sum(chances.values()), 1)
                for painting in product(range(q), repeat=web.many):
                    self.assertEqual(chances.get(painting, 0), sound_chance(drawer, painting))

    def go_through(self, web, q, drawer, throws, begin, part, chances):
        """Follow each throw that is let, beside the begin that it should lead to."""
        if len(throws) == web.many:
            self.assert_same(drawn(web, q, drawer, throws), begin)
            chances[begin] = chances.get(begin, 0) + part
            return
        weights = drawer(begin)
        spread = [colour for colour in range(q) for _ in range(weights[colour])]
        for throw, colour in enumerate(spread):
            self.go_through(web, q, drawer, throws + (throw,), begin + (colour,), part / len(spread), chances)

    def test_by_hand(self):
        drawer = lambda begin: (0, 2, 0, 3)
        self.assert_same([drawn(Web(1, ()), 4, drawer, (k,)) for k in range(5)], [(1,), (1,), (3,), (3,), (3,)])
        drawer = lambda begin: (999999999,) * 6
        self.assert_same(drawn(Web(2, ()), 6, drawer, (999999999 * 6 - 1, 999999998)), (5, 0))
        self.assertEqual(self.assert_kept(BadThrow, drawn, Web(2, ()), 6, drawer, (0, 999999999 * 6)).index, 1)

    def test_bad_throws(self):
        drawer = lambda begin: (1, 1)
        for thing in odd_things() + [(), (0,), (0, 0), (0,) * 4, [0, 0, 0], (0,) * 99999]:
            if not (type(thing) is tuple and len(thing) == 3):
                self.assertEqual(self.assert_kept(BadThrow, drawn, triangle(), 2, self.fail, thing).index, 3)
        for thing in no_integer() + [2, 3, -1, 10 ** 20 - 1]:
            for place in range(3):
                throws = (1,) * place + (thing,) + (5,) * (2 - place)
                self.assertEqual(self.assert_kept(BadThrow, drawn, triangle(), 2, drawer, throws).index, place)

    def test_place_by_place(self):
        for wrong in WRONG:
            for at in range(4):
                drawer = lambda begin: wrong if len(begin) == at else (1, 1, 1)
                for bad in range(4):
                    throws = tuple(3 if place == bad else 2 for place in range(4))
                    asked = []
                    if at <= bad:
                        told = self.assert_kept(NoWeights, drawn, Web(4, ()), 3, asking(drawer, asked), throws)
                        self.assert_same(told.begin, (2,) * at)
                    else:
                        told = self.assert_kept(BadThrow, drawn, Web(4, ()), 3, asking(drawer, asked), throws)
                        self.assertEqual(told.index, bad)
                    self.assertEqual(set(asked), {(2,) * k for k in range(min(at, bad) + 1)})

    def test_no_colours(self):
        for thing in no_integer() + [0, -1, 7, 10 ** 9]:
            self.assert_kept(NoColours, drawn, triangle(), thing, self.fail, (0, 0, 0))
            self.assert_kept(NoColours, drawn, triangle(), thing, self.fail, None)
