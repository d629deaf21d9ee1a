"""Points [3.1], [3.2]: unbroken, mate."""

from itertools import permutations

from takenjoined.broken import mate, unbroken
from takenjoined.counts import numbers
from takenjoined.errors import NoTies, NoWay
from takenjoined.rings import rank, rings
from takenjoined.webs import Web
from tests.things import (
    Judging, all_tied, form, ladder, lots, odd_things, otherwise, petersen, ring_of, triangle, webs_of, wheel,
)


def tried_webs():
    """List webs whose every way is tried."""
    webs = [web for many in (1, 2, 3) for web in webs_of(many, 3)]
    webs += [Web(4, ((0, 1), (1, 2), (2, 3), (0, 3))), Web(3, ((0, 1), (0, 1), (0, 2), (1, 2)))]
    return webs + [Web(2, ((0, 1),) * 4), Web(3, ((0, 1), (1, 1), (0, 2), (1, 2))), Web(4, ((0, 1), (2, 3), (2, 3)))]


def greater_webs():
    """List greater webs, each with some of its ways."""
    found = []
    for web in (wheel(), all_tied(4), ladder(), Web(8, ladder().ties[:7] + ladder().ties[8:]), ring_of(7)):
        ties = tuple(range(len(web.ties)))
        found += [(web, way) for way in (ties, ties[::-1], ties[1::2] + ties[::2], ties[3:] + ties[2::-1])]
    return found


def every_way():
    return [(web, way) for web in tried_webs() for way in permutations(range(len(web.ties)))]


def broken_rings(web, way):
    """List the pairs of a ring's first tie by the way and the set of the others."""
    found = []
    for ring in rings(web):
        first = next(tie for tie in way if tie in ring)
        found.append((first, set(ring) - {first}))
    return found


class Unbroken(Judging):

    def test_examples(self):
        self.assert_same(unbroken(triangle(), (0, 1, 2)), [(), (0,), (0, 1), (0, 2), (1,), (2,)])
        self.assert_same(unbroken(triangle(), (2, 0, 1)), [(), (0,), (0, 2), (1,), (1, 2), (2,)])
        self.assert_same(unbroken(Web(1, ()), ()), [()])
        self.assert_same(unbroken(Web(2, ((0, 1), (0, 1))), (1, 0)), [(), (1,)])
        self.assert_same(unbroken(Web(2, ((0, 1), (0, 1))), (0, 1)), [(), (0,)])
        self.assert_same(unbroken(Web(2, ((0, 1), (1, 1))), (0, 1)), [])

    def test_each_lot_by_itself(self):
        for web, way in every_way() + greater_webs():
            broken = [lot for _, lot in broken_rings(web, way)]
            due = [lot for lot in lots(len(web.ties)) if not any(ring <= set(lot) for ring in broken)]
            self.assert_same(unbroken(web, way), sorted(due))

    def test_second_fact(self):
        for web, way in every_way() + greater_webs() + [(petersen(), tuple(range(14, -1, -1)))]:
            counts = [0] * (web.many + 1)
            for lot in unbroken(web, way):
                counts[web.many - len(lot)] += 1
            signs = [(-1) ** (web.many - place) for place in range(web.many + 1)]
            self.assertEqual(numbers(web), tuple(sign * count for sign, count in zip(signs, counts)))

    def test_new_each_time(self):
        web = triangle()
        unbroken(web, (0, 1, 2)).clear()
        self.assertEqual(len(unbroken(web, (0, 1, 2))), 6)


class Mate(Judging):

    def due(self, web, way, lot):
        """Tell the mate by the words of the point."""
        held = set(lot)
        for tie in way:
            if any(first == tie and rest <= held for first, rest in broken_rings(web, way)):
                return tuple(sorted(held ^ {tie}))
        return None

    def test_examples(self):
        self.assert_same(mate(triangle(), (0, 1, 2), (1, 2)), (0, 1, 2))
        self.assert_same(mate(triangle(), (0, 1, 2), (0, 1, 2)), (1, 2))
        self.assertIsNone(mate(triangle(), (0, 1, 2), (0, 2)))
        self.assertIsNone(mate(Web(1, ()), (), ()))
        self.assert_same(mate(Web(1, ((0, 0), (0, 0))), (1, 0), (0,)), (0, 1))
        self.assert_same(mate(Web(1, ((0, 0), (0, 0))), (0, 1), (1,)), (0, 1))
        self.assert_same(mate(Web(2, ((0, 1), (0, 1))), (1, 0), (0,)), (0, 1))

    def test_each_lot(self):
        for web, way in every_way() + greater_webs():
            kept = unbroken(web, way)
            for lot in lots(len(web.ties)):
                told = mate(web, way, lot)
                self.assertEqual(told is None, lot in kept)
                if len(web.ties) < 6 or len(lot) < 3:
                    self.assert_same(told, self.due(web, way, lot))

    def test_third_fact(self):
        for web, way in every_way() + greater_webs():
            for lot in lots(len(web.ties)):
                told = mate(web, way, lot)
                if told is not None:
                    self.assert_same(mate(web, way, told), lot)
                    self.assertEqual(rank(web, told), rank(web, lot))
                    self.assertEqual(abs(len(told) - len(lot)), 1)
                    self.assertEqual(len(set(told) ^ set(lot)), 1)

    def test_unbroken_lots_alone_are_left_of_the_sum(self):
        for web, way in greater_webs()[:8]:
            counts = [0] * (web.many + 1)
            for lot in lots(len(web.ties)):
                counts[web.many - rank(web, lot)] += (-1) ** len(lot)
            self.assertEqual(numbers(web), tuple(counts))


class Wrong(Judging):

    def wrong_ways(self, way):
        ways = [form(tuple(row)) for row in permutations(way)]
        return [thing for thing in odd_things() + otherwise(way) if form(thing) not in ways]

    def test_no_way(self):
        for web, way in ((triangle(), (2, 0, 1)), (Web(1, ()), ()), (Web(2, ((0, 1), (0, 1))), (1, 0))):
            for thing in self.wrong_ways(way):
                self.assert_kept(NoWay, unbroken, web, thing)
                self.assert_kept(NoWay, mate, web, thing, ())
                self.assert_kept(NoWay, mate, web, thing, None)

    def test_no_ties(self):
        for web, way in ((triangle(), (2, 0, 1)), (Web(1, ()), ()), (Web(2, ((0, 1), (1, 1))), (1, 0))):
            right = [form(lot) for lot in lots(len(web.ties))]
            things = odd_things() + otherwise(way) + otherwise((0, 1)) + [(1, 0), (0, 0), (-1,), (3,), (0, 3)]
            for thing in [thing for thing in things if form(thing) not in right]:
                self.assert_kept(NoTies, mate, web, way, thing)
