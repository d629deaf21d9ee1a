"""Point [1.3]: parts, rank, rings, bridges."""

from itertools import permutations

from takenjoined.errors import NoTies
from takenjoined.rings import bridges, parts, rank, rings
from takenjoined.webs import Web
from tests.things import Judging, ladder, lots, nested, odd_things, petersen, small_webs, triangle, way_webs_of, wheel


def come_to(web, lot, place):
    """Tell the lot of the places that one comes to from a place."""
    found = [place]
    for here in found:
        for tie in lot:
            u, v = web.ties[tie]
            found += [there for there in (u, v) if here in (u, v) and there not in found]
    return tuple(sorted(set(found)))


def is_gone_through(web, ties, place):
    """Tell whether ties lead, one behind another, from a place back to it, no place being met twice."""
    met = []
    here = place
    for tie in ties:
        u, v = web.ties[tie]
        if here not in (u, v) or here in met:
            return False
        met.append(here)
        here = u + v - here
    return here == place


def is_ring(web, lot):
    """Tell by all ways to go whether a lot is a ring."""
    if not lot:
        return False
    # One may begin anywhere on a ring, so with its first tie.
    begins = web.ties[lot[0]]
    return any(is_gone_through(web, lot[:1] + rest, begin) for rest in permutations(lot[1:]) for begin in begins)


def is_even_ring(web, lot):
    """Tell by ends at places whether a lot is a ring."""
    ends = [place for tie in lot for place in web.ties[tie]]
    return bool(lot) and all(ends.count(place) == 2 for place in ends) and set(come_to(web, lot, ends[0])) == set(ends)


class PartsAndRank(Judging):

    def test_parts(self):
        web = Web(5, ((1, 4), (0, 2), (2, 2), (2, 4), (1, 4)))
        self.assert_same(parts(web, ()), [(0,), (1,), (2,), (3,), (4,)])
        self.assert_same(parts(web, (2,)), [(0,), (1,), (2,), (3,), (4,)])
        self.assert_same(parts(web, (0,)), [(0,), (1, 4), (2,), (3,)])
        self.assert_same(parts(web, (0, 4)), [(0,), (1, 4), (2,), (3,)])
        self.assert_same(parts(web, (0, 1)), [(0, 2), (1, 4), (3,)])
        self.assert_same(parts(web, (0, 3)), [(0,), (1, 2, 4), (3,)])
        self.assert_same(parts(web, (0, 1, 2, 3, 4)), [(0, 1, 2, 4), (3,)])
        self.assert_same(parts(Web(1, ()), ()), [(0,)])
        self.assert_same(parts(Web(1, ((0, 0),)), (0,)), [(0,)])

    def test_all_places_together(self):
        self.assert_same(parts(petersen(), tuple(range(15))), [tuple(range(10))])
        self.assert_same(parts(ladder(), tuple(range(10))), [(0, 1, 2, 3, 4, 5, 6), (7,)])

    def test_rank(self):
        web = Web(5, ((1, 4), (0, 2), (2, 2), (2, 4), (1, 4)))
        told = [rank(web, lot) for lot in ((), (2,), (0,), (0, 4), (0, 1), (0, 3), (0, 1, 2, 3, 4))]
        self.assert_same(told, [0, 0, 1, 1, 2, 2, 3])
        self.assert_same(rank(Web(10, ()), ()), 0)
        self.assert_same(rank(petersen(), tuple(range(15))), 9)

    def test_parts_and_rank_by_going(self):
        for web in small_webs():
            every = lots(len(web.ties)) if len(web.ties) < 9 else [(), (0, 2, 4), tuple(range(len(web.ties)))]
            for lot in every:
                due = sorted({come_to(web, lot, place) for place in range(web.many)})
                self.assert_same(parts(web, lot), due)
                self.assert_same(rank(web, lot), web.many - len(due))

    def test_no_ties(self):
        web = triangle()
        wrong = [(3,), (-1,), (0, 3), (0, 1, 2, 3), (1, 0), (0, 0), (0, 2, 1), (0, 1, 1), (10 ** 19,), (-10 ** 19, 0)]
        wrong += [(True,), (0, True), (False,), (False, 1), (0, None), ("0",), ((0,),), (0, [1]), (0, {}), web.ties]
        wrong += [[], [0], [0, 1, 2], range(2), "", "0", b"\x00", {}, {0: 1}, iter((0, 1)), None, 0, 2, web]
        wrong += [nested(tuple), (nested(tuple, 39),), (0, nested(dict, 39))]
        for call in (parts, rank):
            for thing in wrong + odd_things():
                self.assert_kept(NoTies, call, web, thing)
            for thing in ((0,), [], (False,), None, 0, "", {}):
                self.assert_kept(NoTies, call, Web(3, ()), thing)
            self.assert_kept(NoTies, call, Web(1, ((0, 0),)), (1,))

    def test_new_for_each_call(self):
        web = triangle()
        one = parts(web, (0,))
        one.append("more")
        self.assert_same(parts(web, (0,)), [(0, 1), (2,)])
        self.assertEqual(web, triangle())


class Rings(Judging):

    def test_none(self):
        for web in (Web(1, ()), Web(10, ()), Web(2, ((0, 1),)), Web(4, ((0, 1), (1, 2), (1, 3)))):
            self.assert_same(rings(web), [])

    def test_one_tie(self):
        self.assert_same(rings(Web(1, ((0, 0),))), [(0,)])
        self.assert_same(rings(Web(2, ((0, 1), (1, 1), (0, 0), (1, 1)))), [(1,), (2,), (3,)])
        self.assert_same(rings(Web(1, ((0, 0),) * 16)), [(k,) for k in range(16)])

    def test_two_ties(self):
        self.assert_same(rings(Web(2, ((0, 1), (0, 1)))), [(0, 1)])
        self.assert_same(rings(Web(3, ((0, 2), (0, 1), (0, 2), (0, 2)))), [(0, 2), (0, 3), (2, 3)])
        pairs = [(k, j) for k in range(16) for j in range(k + 1, 16)]
        self.assert_same(rings(Web(2, ((0, 1),) * 16)), pairs)

    def test_longer_ones(self):
        self.assert_same(rings(triangle()), [(0, 1, 2)])
        around = tuple((k, k + 1) for k in range(9)) + ((0, 9),)
        self.assert_same(rings(Web(10, around)), [tuple(range(10))])

    def test_several(self):
        square = Web(4, ((0, 1), (1, 2), (2, 3), (0, 3), (0, 2)))
        self.assert_same(rings(square), [(0, 1, 2, 3), (0, 1, 4), (2, 3, 4)])
        self.assert_same(rings(ladder()), [(0, 2, 4), (1, 5, 6), (7,), (8, 9)])

    def test_ascending_as_tuples(self):
        web = Web(3, ((0, 1), (1, 2), (0, 2), (0, 1), (2, 2)))
        self.assert_same(rings(web), [(0, 1, 2), (0, 3), (1, 2, 3), (4,)])

    def test_a_place_is_not_met_twice(self):
        bow = Web(5, ((0, 1), (0, 2), (1, 2), (2, 3), (2, 4), (3, 4)))
        self.assert_same(rings(bow), [(0, 1, 2), (3, 4, 5)])

    def test_by_all_ways_to_go(self):
        for web in small_webs() + way_webs_of(3, 3):
            if len(web.ties) < 7:
                self.assert_same(rings(web), sorted(lot for lot in lots(len(web.ties)) if is_ring(web, lot)))

    def test_by_ends(self):
        for web in (wheel(), ladder(), Web(4, ((0, 1), (2, 3)) * 3 + ((1, 2), (0, 3), (1, 1), (1, 3)))):
            self.assert_same(rings(web), sorted(lot for lot in lots(len(web.ties)) if is_even_ring(web, lot)))

    def test_how_many(self):
        five = Web(5, tuple((u, v) for u in range(5) for v in range(u + 1, 5)))
        six = Web(6, tuple((u, v) for u in range(6) for v in range(u + 1, 6)))
        self.assertEqual([len(rings(web)) for web in (five, six, petersen(), wheel())], [37, 197, 57, 13])
        lengths = [len(ring) for ring in rings(petersen())]
        self.assertEqual([lengths.count(k) for k in range(5, 11)], [12, 10, 0, 15, 20, 0])

    def test_new_for_each_call(self):
        web = triangle()
        rings(web).append("more")
        self.assert_same(rings(web), [(0, 1, 2)])
        self.assertEqual(web, triangle())


class Bridges(Judging):

    def test_bridges(self):
        self.assert_same(bridges(Web(1, ())), ())
        self.assert_same(bridges(Web(1, ((0, 0),))), ())
        self.assert_same(bridges(Web(2, ((0, 1),))), (0,))
        self.assert_same(bridges(Web(2, ((0, 1), (0, 1)))), ())
        self.assert_same(bridges(triangle()), ())
        self.assert_same(bridges(ladder()), (3,))
        self.assert_same(bridges(Web(4, ((1, 1), (0, 1), (1, 2), (1, 3), (1, 2)))), (1, 3))
        self.assert_same(bridges(petersen()), ())

    def test_bridges_part_what_they_tie(self):
        for web in small_webs():
            every = tuple(range(len(web.ties)))
            due = [tie for tie in every if len(parts(web, every[:tie] + every[tie + 1:])) > len(parts(web, every))]
            self.assert_same(bridges(web), tuple(due))
