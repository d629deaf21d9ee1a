"""Point [7.5]: greedy paintings, and what painters need by all orders."""

from itertools import permutations, product

from takenjoined.coming import comings_of, first_painter, led
from takenjoined.counts import fewest
from takenjoined.errors import NoNumber, NoPainting, NoPlace, Selftied, TooMany
from takenjoined.greedy import greedy, is_greedy, least_by_orders, most_by_orders, order_for, worst_order
from takenjoined.thin import first_fit
from takenjoined.webs import Web
from tests.test_coming import any_painter
from tests.test_forced import fresh_painter, last_painter, same_painter
from tests.things import (
    Judging, all_tied, crowded, form, no_integer, odd_things, otherwise, petersen, ring_of, triangle, webs_of, wheel,
)


def few_webs():
    """List webs small enough for all paintings and orders, none with a selftie."""
    webs = [web for many in (1, 2, 3) for web in webs_of(many, 3)] + webs_of(4, 3)[::3] + [all_tied(4), wheel()]
    webs += [ring_of(5), Web(5, ((0, 4), (1, 4), (0, 4), (2, 3))), Web(5, ((0, 1), (1, 2), (2, 3), (3, 4)))]
    return [web for web in webs if not selftied(web)]


def selftied(web):
    return any(u == v for u, v in web.ties)


def crown(many):
    """Two rows of places, each tied to all of the other row but the one across."""
    return Web(2 * many, tuple((u, many + v) for u in range(many) for v in range(many) if u != v))


def ten_places():
    webs = [petersen(), crowded(), ring_of(10), Web(10, ()), Web(10, all_tied(6).ties)]
    return webs + [Web(10, tuple((k, k + 1) for k in range(9))), Web(10, tuple((k, 9) for k in range(9)))]


def is_good_greedy(web, many, painting):
    """Tell by the document's words."""
    if set(painting) != set(range(many)):
        return False
    for place, own in enumerate(painting):
        near = {painting[other] for tie in web.ties if place in tie for other in tie if other != place}
        if own in near or not set(range(own)) <= near:
            return False
    return True


def sound_needs(web, left=None):
    """Tell how many colours can be needed, by leaving out a first colour's places over and over."""
    left = frozenset(range(web.many)) if left is None else left
    if not left:
        return {0}
    near = {p: {q for tie in web.ties if p in tie for q in tie if q != p} for p in left}
    needs = set()

    def go_on(lot, open_places):
        if not open_places:
            needs.update(1 + many for many in sound_needs(web, left - lot))
            return
        # The place open that is least, or one of its neighbours, is of the first colour.
        place = min(open_places)
        for first in sorted(({place} | near[place]) & open_places):
            go_on(lot | {first}, open_places - {first} - near[first])
    go_on(frozenset(), left)
    return needs


class Greedy(Judging):

    def test_by_all_paintings(self):
        for web in few_webs():
            for many in range(1, 7):
                if many ** web.many < 5000:
                    right = [p for p in product(range(many), repeat=web.many) if is_good_greedy(web, many, p)]
                    told = greedy(web, many)
                    self.assertIn(form(told), [form(painting) for painting in right or [None]])
                    for painting in product(range(many), repeat=web.many):
                        self.assertIs(is_greedy(web, many, painting), painting in right)

    def test_by_hand(self):
        path = Web(4, ((0, 1), (1, 2), (2, 3)))
        self.assert_same(greedy(path, 1), None)
        self.assertIn(greedy(path, 2), [(0, 1, 0, 1), (1, 0, 1, 0)])
        self.assertIn(greedy(path, 3), [(0, 1, 2, 0), (0, 2, 1, 0)])
        self.assert_same(greedy(path, 4), None)
        self.assert_same(greedy(Web(1, ()), 1), (0,))
        self.assert_same(greedy(Web(3, ()), 1), (0, 0, 0))
        self.assert_same(greedy(Web(3, ()), 2), None)
        self.assert_same(sorted(greedy(all_tied(6), 6)), [0, 1, 2, 3, 4, 5])

    def test_ten_places(self):
        for web in ten_places() + [crown(4), crown(3)]:
            needs = sound_needs(web)
            for many in range(1, 7):
                told = greedy(web, many)
                self.assertEqual(told is not None, many in needs)
                if told is not None:
                    self.assertTrue(is_good_greedy(web, many, told))
                    self.assertIs(is_greedy(web, many, told), True)
                    self.assert_same(first_fit(web, order_for(web, told)), told)

    def test_one_thing_otherwise(self):
        web = Web(4, ((0, 1), (1, 2), (2, 3), (0, 1)))
        for many in (2, 3):
            right = [form(p) for p in product(range(many), repeat=4) if is_good_greedy(web, many, p)]
            for thing in otherwise(greedy(web, many)):
                self.assertIs(is_greedy(web, many, thing), form(thing) in right, thing)

    def test_what_is_no_painting(self):
        for thing in odd_things() + [(), (0, 1), (0, 1, 3), (-1, 0, 1), (0, 1, 2, 0), (0, True, 2), [0, 1, 2]]:
            for many in range(1, 7):
                self.assertIs(is_greedy(triangle(), many, thing), False)
        self.assertIs(is_greedy(triangle(), 3, (1, 2, 0)), True)
        self.assertIs(is_greedy(triangle(), 4, (1, 2, 0)), False)

    def test_errors(self):
        tied = [Web(1, ((0, 0),)), Web(3, ((0, 1), (2, 2))), Web(10, ((9, 9),))]
        for thing in no_integer() + [0, -1, 7, 8, 10 ** 20 - 1]:
            for web in tied + [triangle(), Web(1, ())]:
                self.assert_kept(NoNumber, greedy, web, thing)
                self.assert_kept(NoNumber, is_greedy, web, thing, (0,))
                self.assert_kept(NoNumber, is_greedy, web, thing, None)
        for web in tied:
            for many in range(1, 7):
                self.assert_kept(Selftied, greedy, web, many)
                for thing in odd_things() + [(0,) * web.many]:
                    self.assert_kept(Selftied, is_greedy, web, many, thing)


class OrderFor(Judging):

    def test_by_all_orders(self):
        for web in few_webs():
            orders = {}
            for order in permutations(range(web.many)):
                orders.setdefault(first_fit(web, order), order)
            for painting in product(range(min(web.many + 1, 4)), repeat=web.many):
                self.assert_same(order_for(web, painting), orders.get(painting))
            for painting, order in orders.items():
                self.assert_same(order_for(web, painting), order)
                self.assertTrue(is_good_greedy(web, len(set(painting)), painting))

    def test_neither_good_nor_greedy(self):
        self.assert_same(order_for(triangle(), (0, 0, 1)), None)
        self.assert_same(order_for(triangle(), (0, 1, 3)), None)
        self.assert_same(order_for(triangle(), (9, 9, 9)), None)
        self.assert_same(order_for(Web(1, ()), (9,)), None)
        self.assert_same(order_for(Web(3, ()), (0, 0, 0)), (0, 1, 2))
        self.assert_same(order_for(Web(3, ((0, 1), (0, 2))), (1, 0, 0)), (1, 0, 2))
        self.assert_same(order_for(Web(4, ((0, 3), (1, 3), (2, 3))), (1, 1, 1, 0)), (3, 0, 1, 2))
        self.assert_same(order_for(Web(4, ((0, 1), (1, 2), (2, 3))), (0, 1, 2, 0)), (0, 1, 3, 2))

    def test_errors(self):
        for thing in odd_things() + otherwise((0, 1, 2)) + [(), (0, 1), (0, 1, 10), (0, 1, -1), [0, 1, 2],
            (0, True, 2)]:
            if form(thing) not in [form(p) for p in product(range(10), repeat=3)]:
                self.assert_kept(NoPainting, order_for, triangle(), thing)
            for web in (Web(3, ((1, 1),)), Web(3, ((0, 1), (0, 2), (1, 2), (2, 2)))):
                self.assert_kept(Selftied, order_for, web, thing)
        self.assert_kept(Selftied, order_for, Web(3, ((1, 1),)), (0, 0, 0))


class ByOrders(Judging):

    def test_all_orders(self):
        six = [Web(6, crown(3).ties), all_tied(6), ring_of(6), Web(6, ((0, 1), (1, 2), (2, 3), (3, 4), (4, 5), (1, 4)))]
        for web in few_webs() + six:
            needs = {len(set(first_fit(web, order))) for order in permutations(range(web.many))}
            self.assert_same(most_by_orders(web), max(needs))
            self.assert_same(least_by_orders(web), min(needs))
            self.assertEqual(needs, set(range(min(needs), max(needs) + 1)))

    def test_ten_places(self):
        for web in ten_places() + [crown(4), Web(8, tuple((u, 4 + v) for u in range(4) for v in range(4)))]:
            needs = sound_needs(web)
            self.assert_same(most_by_orders(web), max(needs))
            self.assert_same(least_by_orders(web), min(needs))
            self.assert_same(least_by_orders(web), fewest(web))
            # Each number from the least to the greatest is needed by some order.
            self.assertEqual(needs, set(range(min(needs), max(needs) + 1)))
        self.assert_same([most_by_orders(web) for web in ten_places()], [4, 5, 3, 1, 6, 3, 2])
        self.assert_same((most_by_orders(crown(4)), least_by_orders(crown(4))), (4, 2))

    def test_selftied(self):
        for web in (Web(1, ((0, 0),)), Web(3, ((0, 1), (2, 2))), Web(10, ((9, 9),))):
            self.assert_kept(Selftied, most_by_orders, web)
            self.assert_kept(Selftied, least_by_orders, web)


class WorstOrder(Judging):

    def sound_worst(self, web, painter):
        whats = [(order, led(painter, comings_of(web, order))) for order in permutations(range(web.many))]
        wrong = [pair for pair in whats if pair[1][0] == "wrong"]
        if wrong:
            return wrong[0]
        most = max(len(set(what[1])) for _, what in whats)
        return [pair for pair in whats if len(set(pair[1][1])) == most][0]

    def test_all_orders(self):
        webs = few_webs()[::2] + [Web(3, ((0, 0), (0, 1))), Web(1, ((0, 0),)), Web(4, ((0, 1), (1, 1), (2, 3), (2, 3)))]
        for web in webs:
            for painter in (first_painter, fresh_painter, same_painter, last_painter, any_painter(2), any_painter(3)):
                self.assert_same(worst_order(web, painter), self.sound_worst(web, painter))

    def test_by_hand(self):
        path = Web(4, ((0, 1), (1, 2), (2, 3)))
        self.assert_same(worst_order(path, first_painter), ((0, 1, 3, 2), ("colours", (0, 1, 0, 2))))
        self.assert_same(worst_order(path, same_painter), ((0, 1, 2, 3), ("wrong", 1, 0)))
        self.assert_same(worst_order(Web(3, ()), same_painter), ((0, 1, 2), ("colours", (0, 0, 0))))

        # It is wrong only where a place comes with just the second one as its neighbour ahead.

        def picky(comings, colours):
            return None if comings[-1] == (1,) else first_painter(comings, colours)

        self.assert_same(worst_order(Web(3, ((0, 2), (1, 2))), picky), ((0, 2, 1), ("wrong", 2, None)))
        self.assert_same(worst_order(Web(4, ((0, 3), (1, 3))), picky), ((0, 3, 1, 2), ("wrong", 2, None)))

    def test_nothing_is_led_behind_what_is_wrong(self):
        asked = []

        def painter(comings, colours):
            asked.append(comings)
            return -1 if comings == ((), (), (1,)) else len(colours)
        self.assert_same(worst_order(Web(3, ((1, 2),)), painter), ((0, 1, 2), ("wrong", 2, -1)))
        self.assertEqual(set(asked), {((),), ((), ()), ((), (), (1,))})

    def test_seven_places(self):
        web = Web(7, ((0, 1), (1, 2), (2, 3), (3, 4), (4, 5), (5, 6)))
        order, what = worst_order(web, first_painter)
        self.assert_same(what, led(first_painter, comings_of(web, order)))
        self.assertEqual(len(set(what[1])), 3)
        self.assert_same(worst_order(Web(7, ((6, 6),)), fresh_painter), (tuple(range(7)), ("colours", tuple(range(7)))))

    def test_too_many(self):
        for web in (Web(8, ()), Web(8, ((0, 0),)), petersen()):
            for painter in (first_painter, self.fail):
                self.assertEqual(self.assert_kept(TooMany, worst_order, web, painter).most, 7)

    def test_errors_of_a_painter_go_on(self):
        for error in (KeyError, NoPlace, ValueError):
            def painter(comings, colours):
                if comings == ((), (), (0, 1)):
                    raise error()
                return len(colours)
            self.assert_kept(error, worst_order, Web(3, ((0, 1), (1, 2))), painter)
            self.assert_same(worst_order(Web(2, ()), painter), ((0, 1), ("colours", (0, 1))))
