"""The examples, and what the document promises over the whole program."""

import sys
from inspect import isclass
from importlib import import_module

from takenjoined.broken import mate, unbroken
from takenjoined.coming import (
    comings_of, first_painter, forest_foe, grown_lot, is_comings, is_forced, is_forest, least_colours, led,
)
from takenjoined.counts import fewest, is_paper, numbers, paper, parted
from takenjoined.desks import Desk, recovered
from takenjoined.errors import NoComings, PaintError
from takenjoined.exchanges import is_row_between, is_shut, row_between, shut_lots
from takenjoined.fair import alike_chance, chance, drawn, fair_drawer, is_unfair, many_on, painting_at, shares, unfair
from takenjoined.greedy import greedy, is_greedy, most_by_orders, order_for, worst_order
from takenjoined.laws import first_break, law_value
from takenjoined.maps import Map, faces, five, is_flat, light_order, lines, opposite
from takenjoined.paintings import is_good, is_painting, painted, paintings
from takenjoined.rings import bridges, parts, rings
from takenjoined.signings import fits, fitting, is_fitting, is_signing, merged, rising, split
from takenjoined.tables import busy, frame_of, frames, table, table_at, table_by
from takenjoined.texts import map_text, read_map, read_web, signing_text, web_text
from takenjoined.thin import is_thick, is_thin, thin_order, thinness
from takenjoined.turnings import is_leading, leads, only
from takenjoined.webs import Web, beside, glued, joined, renamed, taken
from tests.charts import octahedron, pyramid
from tests.test_form import INTERFACE
from tests.things import Judging, crowded, form, nested, odd_things, petersen, triangle, wheel

T = Web(3, ((0, 1), (0, 2), (1, 2)))
D = Web(2, ((0, 1), (0, 1)))
FLAT_TRIANGLE = Map(T, ((0, 2), (1, 4), (3, 5)))


class Examples(Judging):

    def test_all(self):
        self.assert_same((numbers(T), painted(T, 3)), ((0, 2, -3, 1), 6))
        self.assert_same((joined(T, 0), taken(T, 0)), (Web(2, ((0, 1), (0, 1))), Web(3, ((0, 2), (1, 2)))))
        self.assert_same(unbroken(T, (0, 1, 2)), [(), (0,), (0, 1), (0, 2), (1,), (2,)])
        self.assert_same(mate(T, (0, 1, 2), (1, 2)), (0, 1, 2))
        self.assert_same((fits(T, 1), len(rising(T))), (6, 6))
        self.assert_same(only(T, 0), [(True, True, False), (True, True, True)])
        self.assertEqual(table(T), {(2, 0): 1, (1, 0): 1, (0, 1): 1})
        self.assertEqual(table(D), {(1, 0): 1, (0, 1): 1})
        self.assert_same(parted(T, D), 2)
        self.assert_same((thinness(T), least_colours(7)), (2, 3))


def judges():
    """List the functions that judge any object, each beside what stands ahead of it and what is right."""
    signing, painting = rising(T)[0], (0, 1, 2)
    drawer = lambda begin: (1, 2, 3)
    return [
        (is_painting, (T, 3), painting), (is_good, (T, 3), painting), (is_paper, (T,), paper(T)),
        (is_signing, (T,), signing), (is_fitting, (T, 2), fitting(T, 2)[0]),
        (is_leading, (T, signing, rising(T)[3]), leads(T, signing, rising(T)[3])),
        (is_row_between, (T, 3, painting, (1, 0, 2)), row_between(T, 3, painting, (1, 0, 2))),
        (is_shut, (T, 3), shut_lots(T, 3)[0]), (is_thin, (T, 2), (2, 0, 1)), (is_thick, (T, 2), (0, 1, 2)),
        (is_comings, (), comings_of(T, (0, 1, 2))), (is_forced, (first_painter, 3), forest_foe(first_painter, 3)),
        (is_greedy, (T, 3), greedy(T, 3)), (is_unfair, (T, 3, drawer), unfair(T, 3, drawer)),
    ]


class Whole(Judging):

    def test_judging_any_object(self):
        for call, ahead, right in judges():
            self.assertIs(call(*ahead, right), True)
            for thing in odd_things() + [nested(kind, 40, core) for kind in (list, tuple, dict) for core in (right, T,
                None)]:
                if form(thing) != form(((),)) or call != is_comings:
                    self.assertIs(call(*ahead, thing), False, (call, repr(thing)[:60]))
        for thing in odd_things():
            if form(thing) != form(((),)):
                self.assert_kept(NoComings, is_forest, thing)

    def test_what_is_returned_may_be_passed_on(self):
        for web in (T, wheel(), petersen(), crowded()):
            self.assertEqual(read_web(web_text(web)), web)
            self.assertIs(is_paper(web, paper(web)), True)
        self.assertIs(is_shut(T, 3, shut_lots(T, 3)[0]), True)
        self.assertEqual(signing_text(rising(T)[0]), "---")
        self.assertIs(is_flat(opposite(opposite(octahedron()))), True)
        self.assertIs(is_unfair(T, 3, fair_drawer(T, 3), (painting_at(T, 3, 0), painting_at(T, 3, 5))), False)

    def test_equal_calls_give_equal_answers(self):
        calls = [
            (rings, T), (bridges, T), (parts, T, (0,)), (numbers, T), (fewest, T), (paintings, T, 3), (fitting, T, 2),
            (unbroken, T, (2, 0, 1)), (leads, T, rising(T)[0], rising(T)[5]), (thin_order, T, 2),
            (order_for, T, (0, 1, 2)), (forest_foe, first_painter, 5), (led, first_painter, ((), (0,))),
            (grown_lot, ((), (0,)), 1), (greedy, wheel(), 3), (worst_order, wheel(), first_painter),
            (shares, T, 3, (0,)), (many_on, T, 3, (0,)), (frames, T), (table, T), (busy, T, (0, 2, 1), (0, 1)),
            (table_by, T, (1, 2, 0)), (frame_of, T, (1, 2, 0), (0,)), (table_at, T, 2, -3),
            (law_value, T, (1, 2, 3, 4)), (first_break, lambda web: 1, (1, 1, 1, 1), 2, 2), (faces, FLAT_TRIANGLE),
            (lines, pyramid()), (five, octahedron()), (light_order, octahedron()), (opposite, pyramid()),
            (map_text, pyramid()), (read_map, map_text(pyramid())), (beside, T, D), (glued, T, D, 1, 0),
            (renamed, T, (2, 0, 1)), (taken, T, 1), (split, T, 0, 2, fitting(T, 2)[0]),
            (merged, T, 0, 2, *split(T, 0, 2, fitting(T, 2)[0])), (alike_chance, D, 3, 0, 1),
            (unfair, T, 3, lambda begin: (1, 2, 3)), (chance, T, 3, lambda begin: (1, 2, 3), (0, 1, 2)),
            (drawn, T, 3, lambda begin: (1, 2, 3), (5, 0, 3)), (most_by_orders, wheel()), (is_flat, pyramid()),
        ]
        for call, *given in calls:
            ahead = form(given)
            one, other = call(*given), call(*given)
            self.assertEqual(form(one), form(other))
            if isinstance(one, (list, dict)):
                self.assertIsNot(one, other)
                one.clear()
                self.assertEqual(form(call(*given)), form(other))
            self.assertEqual(form(given), ahead)

    def test_equality_of_objects(self):
        things = [T, D, FLAT_TRIANGLE, pyramid(), Desk(), recovered("")[0], PaintError(), NoComings()]
        for at, one in enumerate(things):
            for other_at, other in enumerate(things):
                self.assertIs(one == other, at == other_at)
            for other in odd_things():
                self.assertIs(one == other, False)
                self.assertIs(other == one, False)
        self.assertTrue(T == triangle() and FLAT_TRIANGLE == Map(triangle(), ((0, 2), (1, 4), (3, 5))))

    def test_no_recursion_to_speak_of(self):
        limit = sys.getrecursionlimit()
        sys.setrecursionlimit(200)
        try:
            self.assertEqual(len(rising(petersen())), 16680)
            self.assertEqual(len(forest_foe(first_painter, 6)[1]), 32)
            self.assertIs(is_forest(((),) + tuple((k,) for k in range(62))), True)
            self.assertEqual(table_at(crowded(), 2, 2), 2 ** 16)
            self.assertEqual(led(first_painter, tuple(tuple(range(k)) for k in range(63)))[1], tuple(range(63)))
            told = nested(list, 30, True)
            painter = lambda comings, colours: told
            self.assertIs(is_forced(painter, 1, ("wrong", ((),), nested(list, 30, True))), True)
        finally:
            sys.setrecursionlimit(limit)

    def test_every_name_of_the_interface(self):
        for file, names in INTERFACE.items():
            for name in names:
                thing = getattr(import_module("takenjoined." + file), name)
                self.assertEqual(thing.__qualname__, name)
                self.assertTrue(isclass(thing) or callable(thing))
        self.assertEqual(len([name for names in INTERFACE.values() for name in names]), 99)
