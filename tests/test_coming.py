"""Points [7.1], [7.2], [7.4]: comings, painters that are led, grown lots."""

from itertools import permutations, product
from zlib import crc32

from takenjoined.coming import (
    comings_of, first_painter, grown_lot, is_comings, is_forest, least_colours, led,
)
from takenjoined.errors import NoComings, NoForest, NoNumber, NoOrder, NoPlace
from takenjoined.webs import Web
from tests.things import (
    Judging, all_tied, crowded, form, ladder, lots, nested, no_index, no_integer, odd_things, otherwise, petersen,
    triangle, webs_of, wheel,
)


def all_comings(many):
    """List all comings of so many places."""
    return list(product(*[lots(place) for place in range(many)]))


def has_ring(comings):
    """Tell whether there is a ring, by leaving out places with one tie or none over and over."""
    ties = {(other, place) for place, lot in enumerate(comings) for other in lot}
    left = set(range(len(comings)))
    while True:
        ties = {tie for tie in ties if set(tie) <= left}
        thin = {place for place in left if sum(place in tie for tie in ties) < 2}
        if not thin:
            return bool(left)
        left -= thin


def forests(many):
    """List the comings of all forests of so many places."""
    return [comings for comings in all_comings(many) if not has_ring(comings)]


def long_forest(many):
    """A forest of many places, each tied to some of those ahead that are not tied to one another yet."""
    comings = ()
    for place in range(many):
        lot = ()
        for other in range(place):
            if crc32(repr((place, other, many)).encode()) % 3 == 0 and not has_ring(comings + (lot + (other,),)):
                lot += (other,)
        comings += (lot,)
    return comings


def sound_led(painter, comings):
    colours = ()
    for place in range(len(comings)):
        told = painter(comings[:place + 1], colours)
        right = type(told) is int and 0 <= told < 1000
        if not right or any(colours[other] == told for other in comings[place]):
            return ("wrong", place, told)
        colours += (told,)
    return ("colours", colours)


def any_painter(kind):
    """A painter that answers by all that it is called with, mostly rightly."""
    def painter(comings, colours):
        drawn = crc32(repr((kind, comings, colours)).encode())
        if kind % 3 == 0 and drawn % 11 == 0:
            return drawn % 5
        free = [colour for colour in range(len(comings) + 2) if colour not in [colours[k] for k in comings[-1]]]
        return free[drawn // 11 % min(len(free), 1 + kind % 4)]
    return painter


WRONG_COMINGS = [
    (), (0,), ((0,),), ((), (1,)), ((), (0,), (1, 0)), ((), (0,), (1, 1)), ((), (0,), (2,)), ((), (-1,)),
    ((), (False,)),
    ((), [0]), [(), (0,)], ((), 0), ((), (0, 0)), ((), None), ((), (0.0 == 0,)), ((), "0"), ((), ("0",)), ((), {0: 0}),
    ((),) * 64, ((),) * 63 + ((0,),), ((), ()) + ([],), (((),),), ((), ((),)), (None,), ((), (10 ** 20 - 1,)),
]


class Comings(Judging):

    def test_is_comings(self):
        for many in range(1, 5):
            for comings in all_comings(many):
                self.assertIs(is_comings(comings), True)
        for many in (1, 2, 62, 63):
            self.assertIs(is_comings(((),) * many), True)
            self.assertIs(is_comings(tuple(tuple(range(place)) for place in range(many))), True)
        self.assertIs(is_comings(((),) * 62 + ((0, 30, 61),)), True)

    def test_is_no_comings(self):
        for thing in odd_things() + no_index(2) + WRONG_COMINGS + [tuple(tuple(range(k)) for k in range(64))]:
            if thing != ((),):
                self.assertIs(is_comings(thing), False, repr(thing)[:80])

    def test_one_thing_otherwise(self):
        right = [[form(lot) for lot in lots(place)] for place in range(9)]
        for comings in (((), (0,), (0, 1)), ((), (), (1,), (0, 2))):
            for thing in otherwise(comings):
                kind = type(thing) is tuple and 1 <= len(thing) < 9
                due = kind and all(form(lot) in right[place] for place, lot in enumerate(thing))
                self.assertIs(is_comings(thing), due, thing)

    def test_comings_of_by_hand(self):
        self.assert_same(comings_of(triangle(), (2, 0, 1)), ((), (0,), (0, 1)))
        self.assert_same(comings_of(Web(4, ((0, 3), (0, 3), (1, 1), (1, 2))), (3, 1, 0, 2)), ((), (), (0,), (1,)))
        self.assert_same(comings_of(Web(1, ((0, 0),) * 16), (0,)), ((),))
        self.assert_same(comings_of(Web(2, ((0, 1),) * 16), (1, 0)), ((), (0,)))

    def test_comings_of_each_order(self):
        webs = webs_of(3, 3) + webs_of(4, 2) + [wheel(), all_tied(4), Web(5, ((0, 4), (0, 0), (0, 4), (1, 3), (2, 4)))]
        for web in webs:
            for order in permutations(range(web.many)):
                due = []
                for at, place in enumerate(order):
                    near = {other for tie in web.ties if place in tie for other in tie}
                    due.append(tuple(k for k in range(at) if order[k] in near))
                told = comings_of(web, order)
                self.assert_same(told, tuple(due))
                self.assertIs(is_comings(told), True)

    def test_comings_of_greater_webs(self):
        for web in (crowded(), petersen(), ladder()):
            order = tuple(range(web.many))
            told = comings_of(web, order)
            ties = sorted({tie for tie in web.ties if tie[0] != tie[1]})
            self.assertEqual(sorted((u, v) for v, lot in enumerate(told) for u in lot), ties)
            self.assertEqual(sum(map(len, comings_of(web, order[::-1]))), len(ties))

    def test_no_order(self):
        right = [form(order) for order in permutations(range(3))]
        for thing in odd_things() + otherwise((1, 2, 0)) + [(0, 1), (0, 1, 1), (1, 2, 3), ()]:
            if form(thing) not in right:
                self.assert_kept(NoOrder, comings_of, triangle(), thing)
                self.assert_kept(NoOrder, comings_of, Web(3, ((0, 0),)), thing)

    def test_is_forest(self):
        for many in range(1, 6):
            for comings in all_comings(many):
                self.assertIs(is_forest(comings), not has_ring(comings), comings)

    def test_is_forest_of_many_places(self):
        for many in (10, 40, 63):
            comings = long_forest(many)
            self.assertIs(is_forest(comings), True)
            self.assertGreater(sum(map(len, comings)), many // 2)
            for place in range(2, many, 7):
                for other in range(place):
                    if other not in comings[place]:
                        lot = tuple(sorted(comings[place] + (other,)))
                        more = comings[:place] + (lot,) + comings[place + 1:]
                        self.assertIs(is_forest(more), not has_ring(more))
        path = ((),) + tuple((k,) for k in range(62))
        self.assertIs(is_forest(path), True)
        self.assertIs(is_forest(path[:-1] + ((0, 61),)), False)
        self.assertIs(is_forest(((),) * 62 + (tuple(range(62)),)), True)
        self.assertIs(is_forest(((), (), (0, 1), (0, 1))), False)
        self.assertIs(is_forest(((), (0,), (0, 1)) + ((),) * 60), False)

    def test_no_comings(self):
        for thing in odd_things() + WRONG_COMINGS + [1, -1]:
            if form(thing) != form(((),)):
                self.assert_kept(NoComings, is_forest, thing)
                self.assert_kept(NoComings, grown_lot, thing, 0)
                self.assert_kept(NoComings, grown_lot, thing, None)
                self.assert_kept(NoComings, led, self.fail, thing)


class Led(Judging):

    def test_by_all_comings(self):
        for many in range(1, 5):
            for comings in all_comings(many):
                for kind in range(6):
                    painter = any_painter(kind)
                    self.assert_same(led(painter, comings), sound_led(painter, comings))

    def test_what_a_painter_is_called_with(self):
        comings = ((), (0,), (), (0, 2), (3,))
        asked = []

        def painter(*given):
            asked.append(given)
            return len(given[0]) * 7
        self.assert_same(led(painter, comings), ("colours", (7, 14, 21, 28, 35)))
        self.assert_same(asked, [(comings[:k + 1], (7, 14, 21, 28, 35)[:k]) for k in range(5)])

    def test_least_and_greatest_colours(self):
        self.assert_same(led(lambda comings, colours: 999, ((),)), ("colours", (999,)))
        self.assert_same(led(lambda comings, colours: 0, ((), ())), ("colours", (0, 0)))
        self.assert_same(led(lambda comings, colours: 1000, ((),)), ("wrong", 0, 1000))
        self.assert_same(led(lambda comings, colours: 999 + len(colours), ((), (0,))), ("wrong", 1, 1000))
        self.assert_same(led(lambda comings, colours: 5, ((), (0,))), ("wrong", 1, 5))
        self.assert_same(led(lambda comings, colours: 5, ((), (), (), (0, 2))), ("wrong", 3, 5))

    def test_what_is_no_colour(self):
        wrong = no_integer() + [-1, 1000, 1001, 10 ** 20, -10 ** 20, nested(list, 30), nested(tuple, 30)]
        comings = ((), (0,), (1,), ())
        for told in wrong:
            for place in range(4):
                what = led(lambda comings, colours: told if len(colours) == place else len(colours), comings)
                self.assert_same(what[:2], ("wrong", place))
                self.assertIs(what[2], told)

    def test_nothing_is_asked_behind_what_is_wrong(self):
        asked = []

        def painter(comings, colours):
            asked.append(len(colours))
            return -1 if len(colours) == 2 else len(colours)
        led(painter, ((),) * 5)
        self.assertEqual(set(asked), {0, 1, 2})

    def test_errors_of_a_painter_go_on(self):
        for error in (KeyError, ValueError, NoPlace, IndexError, ZeroDivisionError, StopIteration, LookupError):
            def painter(comings, colours):
                if len(colours) == 2:
                    raise error()
                return len(colours)
            self.assert_kept(error, led, painter, ((),) * 3)
            self.assert_same(led(painter, ((),) * 2), ("colours", (0, 1)))

    def test_first_painter(self):
        self.assert_same(first_painter(((),), ()), 0)
        self.assert_same(first_painter(((), (0,)), (0,)), 1)
        self.assert_same(first_painter(((), (0,)), (1,)), 0)
        self.assert_same(first_painter(((), (), (), (0, 2)), (0, 1, 1)), 2)
        self.assert_same(first_painter(((), (), (), (0, 1, 2)), (999, 0, 2)), 1)
        for comings in all_comings(4):
            for colours in product(range(4), repeat=3):
                barred = [colours[place] for place in comings[3]]
                self.assert_same(first_painter(comings, colours), [c for c in range(5) if c not in barred][0])
        many = tuple(tuple(range(place)) for place in range(63))
        self.assert_same(led(first_painter, many), ("colours", tuple(range(63))))


class GrownLots(Judging):

    def sound_lot(self, comings, place):
        colours = sound_led(first_painter, comings)[1]
        lot = {place}
        for colour in range(colours[place]):
            other = min(k for k in comings[place] if colours[k] == colour)
            more = self.sound_lot(comings, other)
            self.assertFalse(lot & set(more))
            lot |= set(more)
        return tuple(sorted(lot))

    def assert_lots(self, comings):
        colours = led(first_painter, comings)[1]
        for place in range(len(comings)):
            told = grown_lot(comings, place)
            self.assert_same(told, self.sound_lot(comings, place))
            self.assertEqual(len(told), 2 ** colours[place])

    def test_small_forests(self):
        for many in range(1, 6):
            for comings in forests(many):
                self.assert_lots(comings)

    def test_greater_forests(self):
        for many in (7, 20, 45, 63):
            self.assert_lots(long_forest(many))

    def test_by_hand(self):
        comings = ((), (), (0,), (), (1, 2), (4,))
        self.assert_same([grown_lot(comings, k) for k in range(6)], [(0,), (1,), (0, 2), (3,), (0, 1, 2, 4), (5,)])

    def test_deepest_lot(self):
        # Of each colour up to 5 one place, and of the lesser ones as many as these need: 32 and fewer.
        comings = ()

        def grow(colour):
            nonlocal comings
            lot = tuple(grow(lesser) for lesser in range(colour))
            comings += (lot,)
            return len(comings) - 1

        grow(5)
        self.assertEqual(len(comings), 32)
        self.assert_same(grown_lot(comings, 31), tuple(range(32)))
        self.assert_lots(comings)

    def test_order_of_errors(self):
        ring = ((), (0,), (0, 1))
        for thing in no_index(3) + [3, 4]:
            self.assert_kept(NoForest, grown_lot, ring, thing)
            self.assert_kept(NoPlace, grown_lot, ((), (0,), (0,)), thing)
            self.assert_kept(NoComings, grown_lot, [], thing)
        self.assert_kept(NoForest, grown_lot, ring, 0)
        self.assert_kept(NoForest, grown_lot, ((), (), (0, 1), (0, 1)), 0)


class LeastColours(Judging):

    def test_from_1_to_63(self):
        for places in range(1, 64):
            self.assert_same(least_colours(places), len(f"{places:b}"))
        self.assert_same([least_colours(k) for k in (1, 2, 3, 4, 7, 8, 31, 32, 63)], [1, 2, 2, 3, 3, 4, 5, 6, 6])

    def test_no_number(self):
        for thing in no_integer() + [0, -1, 64, 65, 10 ** 20 - 1, -10 ** 19]:
            self.assert_kept(NoNumber, least_colours, thing)

    def test_first_painter_needs_no_more(self):
        for many in range(1, 6):
            needed = [len(set(led(first_painter, comings)[1])) for comings in forests(many)]
            self.assertEqual(max(needed), least_colours(many))
        for many in (7, 15, 31, 63):
            self.assertLessEqual(len(set(led(first_painter, long_forest(many))[1])), least_colours(many))
