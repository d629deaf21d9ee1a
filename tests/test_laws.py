"""Point [9.5]: laws by taking and joining, and the first web at which a function breaks them."""

from random import Random

from takenjoined.counts import numbers, worth
from takenjoined.errors import NoFour, NoNumber, NoPlace
from takenjoined.laws import first_break, law_value
from takenjoined.rings import bridges
from takenjoined.signings import rising
from takenjoined.tables import frames, table_at
from takenjoined.webs import Web, joined, taken
from tests.test_tables import few_webs, pieces
from tests.things import (
    Judging, all_tied, crowded, form, ladder, nested, no_integer, odd_things, otherwise, petersen, triangle, webs_of,
    wheel,
)

FOURS = [(1, 1, 1, 1), (1, 1, 2, 0), (2, -3, 5, -1), (0, 0, 0, 0), (0, 2, 3, 4), (3, 0, -2, 0), (-9, 9, -9, 9),
         (1, -1, 0, 0)]
NO_FOURS = [
    (), (1,), (1, 1, 1), (1, 1, 1, 1, 1), [1, 1, 1, 1], (1, 1, 1, True), (False, 0, 0, 0), (1, 1, 1, 10),
    (1, -10, 1, 1),
    (10, 1, 1, 1), (1, 1, -10, 1), (1, 1, 1, "1"), (1, 1, None, 1), ((1, 1), (1, 1)), 4, 1111, "1111", {0: 1},
]


def sound_value(web, four, rng):
    """Tell what a four's laws ask for, by taking and joining ties in a drawn order."""
    a, b, x, y = four
    if not web.ties:
        return 1
    tie = rng.randrange(len(web.ties))
    u, v = web.ties[tie]
    if u == v:
        return y * sound_value(taken(web, tie), four, rng)
    if tie in bridges(web):
        return x * sound_value(joined(web, tie), four, rng)
    return a * sound_value(taken(web, tie), four, rng) + b * sound_value(joined(web, tie), four, rng)


def by_law(four):
    return lambda web: law_value(web, four)


def key(web):
    return (web.many, tuple(sorted(web.ties)))


def small_webs(places, most):
    return [web for many in range(1, places + 1) for web in webs_of(many, most)]


def sound_break(function, four, places, most):
    """Tell the first break by the document's words."""
    a, b, x, y = four
    for web in small_webs(places, most):
        told = function(web)
        if not web.ties:
            if type(told) is not int or told != 1:
                return (web, -1, told, 1)
            continue
        for tie, (u, v) in enumerate(web.ties):
            less, one = [Web(*key(make(web, tie))) for make in (taken, joined)]
            if u == v:
                due = y * function(less)
            elif tie in bridges(web):
                due = x * function(one)
            else:
                due = a * function(less) + b * function(one)
            if type(told) is not int or told != due:
                return (web, tie, told, due)
    return None


class LawValue(Judging):

    def test_small_webs(self):
        rng = Random(4)
        for web in few_webs():
            for four in FOURS:
                for _ in range(3):
                    self.assert_same(law_value(web, four), sound_value(web, four, rng))

    def test_greater_webs(self):
        rng = Random(5)
        for web in (wheel(), ladder(), all_tied(4), Web(2, ((0, 1),) * 9), Web(1, ((0, 0),) * 16)):
            for four in FOURS:
                self.assert_same(law_value(web, four), sound_value(web, four, rng))

    def test_known_fours(self):
        for web in few_webs() + [wheel(), ladder(), petersen(), crowded()]:
            self.assert_same(law_value(web, (1, 1, 2, 0)), len(rising(web)))
            self.assert_same(law_value(web, (1, 1, 1, 1)), len(frames(web)))
            self.assert_same(law_value(web, (1, 1, 2, 2)), 2 ** len(web.ties))
            self.assert_same(law_value(web, (1, 1, -3, 5)), table_at(web, -3, 5))
            parts = pieces(web, range(len(web.ties)))
            for q in range(1, 8):
                value = law_value(web, (1, -1, q - 1, 0))
                self.assert_same(q ** parts * value, worth(numbers(web), q))

    def test_nought_to_the_power_of_nought(self):
        self.assert_same(law_value(Web(3, ()), (0, 0, 0, 0)), 1)
        self.assert_same(law_value(Web(2, ((0, 1),)), (0, 0, 7, 0)), 7)
        self.assert_same(law_value(Web(1, ((0, 0),)), (0, 0, 0, 7)), 7)
        self.assert_same(law_value(Web(2, ((0, 1), (0, 1))), (0, 1, 4, 3)), 3)
        self.assert_same(law_value(Web(2, ((0, 1), (0, 1))), (1, 0, 4, 3)), 4)
        self.assert_same(law_value(Web(2, ((0, 1), (0, 1))), (0, 0, 4, 3)), 0)

    def test_no_four(self):
        right = [form((a, b, 1, 1)) for a in range(-9, 10) for b in range(-9, 10)]
        right += [form((1, 1, x, y)) for x in range(-9, 10) for y in range(-9, 10)]
        for thing in odd_things() + NO_FOURS + otherwise((1, 1, 1, 1)):
            if form(thing) not in right:
                self.assert_kept(NoFour, law_value, triangle(), thing)
                self.assert_kept(NoFour, first_break, self.fail, thing, 1, 1)
                self.assert_kept(NoFour, first_break, self.fail, thing, 5, None)


class FirstBreak(Judging):

    def assert_break(self, function, four, places, most):
        told = first_break(function, four, places, most)
        self.assert_same(told, sound_break(function, four, places, most))
        return told

    def test_obeying(self):
        for four in FOURS:
            self.assert_same(first_break(by_law(four), four, 3, 3), None)
        self.assert_same(first_break(by_law((2, -1, 3, 5)), (2, -1, 3, 5), 4, 4), None)
        self.assert_same(first_break(lambda web: 1, (1, 0, 1, 1), 2, 4), None)
        self.assert_same(first_break(lambda web: 1, (9, 9, 9, 9), 4, 0), None)
        self.assert_same(first_break(lambda web: len(frames(web)), (1, 1, 1, 1), 3, 4), None)

    def test_otherwise_at_one_web(self):
        for four in FOURS[:4]:
            for odd in small_webs(3, 2) + small_webs(2, 4)[::4] + webs_of(4, 2)[::6]:
                for told in (law_value(odd, four) + 1, True, None, 2 ** 70):
                    def function(web):
                        return told if web == odd else law_value(web, four)
                    due = (odd, 0 if odd.ties else -1, told, law_value(odd, four))
                    # Webs with no more places and ties than the odd one are all that is needed to find it.
                    self.assert_same(first_break(function, four, odd.many, max(len(odd.ties), 1)), due)
                    self.assert_same(first_break(function, four, 4, 2) if len(odd.ties) < 3 else due, due)
                    if odd.many > 1:
                        self.assert_same(first_break(function, four, odd.many - 1, 3), None)
                    if odd.ties:
                        self.assert_same(first_break(function, four, odd.many, len(odd.ties) - 1), None)

    def test_any_functions(self):
        functions = [lambda web: 1, lambda web: 0, lambda web: web.many, lambda web: len(web.ties),
                     lambda web: 2 ** len(web.ties)]
        functions += [lambda web: len(rising(web)), lambda web: len(frames(web)),
                      lambda web: 1 if not web.ties else True]
        functions += [lambda web: worth(numbers(web), 3), lambda web: web, lambda web: 2 ** web.many]
        functions += [lambda web: True, lambda web: 1 if len(web.ties) < 3 else None, by_law((1, 1, 2, 0))]
        for function in functions:
            for four in FOURS + [(1, 1, 2, 2), (1, 0, 1, 1), (1, 1, 1, 0)]:
                for places, most in ((1, 0), (1, 4), (2, 3), (3, 2), (4, 1)):
                    self.assert_break(function, four, places, most)

    def test_what_is_no_integer(self):
        for thing in no_integer() + [nested(tuple, 30)]:
            told = first_break(lambda web: thing, (1, 1, 1, 1), 2, 2)
            self.assert_same((told[0], told[1], told[3]), (Web(1, ()), -1, 1))
            self.assertIs(told[2], thing)
            told = first_break(lambda web: thing if len(web.ties) == 2 else 1, (1, 0, 1, 4), 2, 0)
            self.assert_same(told, None)
            told = first_break(lambda web: thing if len(web.ties) == 1 else 1, (1, 0, 1, 4), 2, 2)
            self.assert_same((told[0], told[1], told[3]), (Web(1, ((0, 0),)), 0, 4))
            self.assertIs(told[2], thing)

    def test_order_of_small_webs(self):
        seen = []

        def function(web):
            seen.append(web)
            return law_value(web, (1, 2, 3, 4))
        self.assert_same(first_break(function, (1, 2, 3, 4), 4, 3), None)
        due = [form(web) for web in small_webs(4, 3)]
        told = [form(web) for web in seen]
        for web in told:
            self.assertIn(web, due)
        self.assertEqual([web for at, web in enumerate(told) if web not in told[:at]], due)

    def test_errors_of_a_function_go_on(self):
        for error in (KeyError, ValueError, NoPlace, ZeroDivisionError):
            def function(web):
                if web.many == 2 and web.ties:
                    raise error()
                return 1
            self.assert_kept(error, first_break, function, (1, 0, 1, 1), 2, 1)
            self.assert_same(first_break(function, (1, 0, 1, 1), 1, 4), None)
            self.assert_same(first_break(function, (1, 0, 1, 1), 4, 0), None)
            # Behind what breaks the laws nothing is asked.
            self.assert_same(first_break(function, (1, 0, 1, 2), 2, 1), (Web(1, ((0, 0),)), 0, 1, 2))

    def test_order_of_errors(self):
        for thing in no_integer() + [0, -1, 5, 6, 10 ** 20 - 1]:
            self.assert_kept(NoNumber, first_break, self.fail, (1, 1, 1, 1), thing, 2)
            self.assert_kept(NoNumber, first_break, self.fail, (1, 1, 1, 1), thing, None)
            if form(thing) != form(0):
                self.assert_kept(NoNumber, first_break, self.fail, (1, 1, 1, 1), 2, thing)
