"""Points [6.3], [6.4]: thin orders, thick lots, first fits, thin rows."""

from itertools import permutations, product

from takenjoined.errors import NoColours, NoNumber, NoOrder, NoPainting, Selftied
from takenjoined.exchanges import is_row_between, shut_lots
from takenjoined.paintings import is_good, paintings
from takenjoined.thin import first_fit, is_thick, is_thin, thick_lot, thin_order, thin_row, thinness
from takenjoined.webs import Web, neighbours
from tests.things import (
    Judging, all_tied, crowded, form, ladder, lots, no_integer, odd_things, otherwise, petersen, ring_of, triangle,
    webs_of, wheel,
)


def few_webs():
    """List webs small enough to try all orders, alike ties and selfties among them."""
    webs = [web for many in (1, 2, 3) for web in webs_of(many, 3)] + webs_of(4, 2) + [all_tied(4), ring_of(5), wheel()]
    webs += [Web(4, ((0, 3), (0, 3), (1, 2), (2, 3), (1, 3))), all_tied(6), all_tied(5), Web(6, prism_ties())]
    return webs + [Web(5, ((0, 4), (1, 4), (2, 4), (3, 4))), Web(5, ((0, 1), (0, 0), (0, 1), (1, 4), (2, 4)))]


def prism_ties():
    return ((0, 1), (0, 2), (1, 2), (3, 4), (3, 5), (4, 5), (0, 3), (1, 4), (2, 5))


def many_near(web, place, others):
    return len({other for tie in web.ties if place in tie for other in tie if other != place and other in others})


def thin_by(web, order):
    """Tell by how much an order is thin."""
    return max(many_near(web, place, order[:at]) for at, place in enumerate(order))


def greater_webs():
    webs = [petersen(), crowded(), ladder(), ring_of(10), Web(10, crowded().ties[:9]), Web(10, ())]
    return webs + [Web(10, all_tied(6).ties)]


class Thin(Judging):

    def test_by_hand(self):
        self.assert_same(neighbours(Web(4, ((0, 0), (0, 2), (0, 2), (1, 2)))), [(2,), (2,), (0, 1), ()])
        self.assert_same(thinness(triangle()), 2)
        self.assert_same(thinness(Web(1, ((0, 0),) * 16)), 0)
        self.assert_same(thinness(Web(2, ((0, 1),) * 16)), 1)
        self.assert_same([thinness(web) for web in greater_webs()], [3, 3, 2, 2, 1, 0, 5])
        self.assert_same(thin_order(Web(3, ((0, 1), (1, 2))), 0), None)
        self.assert_same(thin_order(Web(3, ((0, 1), (1, 2))), 1), (0, 1, 2))
        self.assert_same(thin_order(Web(3, ((0, 2), (1, 2))), 1), (0, 2, 1))
        self.assert_same(thick_lot(ladder(), 2), (0, 1, 2, 3, 4, 5))
        self.assert_same(thick_lot(Web(8, ladder().ties[:6]), 2), (0, 1, 2))
        self.assert_same(thick_lot(ladder(), 0), tuple(range(8)))
        self.assert_same(thick_lot(ladder(), 3), ())

    def test_thin_by_all_orders(self):
        for web in few_webs():
            thins = [(order, thin_by(web, order)) for order in permutations(range(web.many))]
            self.assert_same(thinness(web), min(by for _, by in thins))
            for d in range(7):
                due = [order for order, by in thins if by <= d]
                self.assert_same(thin_order(web, d), due[0] if due else None)
            for order, by in thins[::7]:
                for d in range(7):
                    self.assertIs(is_thin(web, d, order), by <= d)

    def test_thick_by_all_lots(self):
        for web in few_webs():
            for d in range(7):
                thick = [lot for lot in lots(web.many) if all(many_near(web, place, lot) >= d for place in lot)]
                every = {place for lot in thick for place in lot}
                self.assert_same(thick_lot(web, d), tuple(sorted(every)))
                for lot in lots(web.many):
                    self.assertIs(is_thick(web, d, lot), lot != () and lot in thick)

    def test_fact_of_thin_webs(self):
        for web in few_webs() + greater_webs():
            for d in range(6):
                self.assertEqual(thin_order(web, d) is not None, thick_lot(web, d + 1) == ())
                self.assertEqual(thin_order(web, d) is not None, thinness(web) <= d)

    def test_greater_webs(self):
        for web in greater_webs():
            for d in range(thinness(web), 7):
                order = thin_order(web, d)
                self.assertLessEqual(thin_by(web, order), d)
                self.assertIs(is_thin(web, d, order), True)
                self.assertIs(is_thin(web, thin_by(web, order) - 1, order), False) if thin_by(web, order) else None
                # With as much room as there are neighbours at all the order is as it stands.
                if d >= max(len(places) for places in neighbours(web)):
                    self.assert_same(order, tuple(range(web.many)))
            for d in range(7):
                lot = thick_lot(web, d)
                self.assertTrue(all(many_near(web, place, lot) >= d for place in lot))
                self.assertIs(is_thick(web, d, lot), lot != ())

    def test_one_thing_otherwise(self):
        web = ring_of(5)
        right = [form(order) for order in permutations(range(5)) if thin_by(web, order) <= 2]
        for thing in otherwise((0, 1, 2, 3, 4)) + otherwise((2, 4, 1, 0, 3)):
            self.assertIs(is_thin(web, 2, thing), form(thing) in right, thing)
        right = [form(lot) for lot in lots(5) if is_thick(web, 1, lot)]
        for thing in otherwise((0, 1, 2, 3, 4)) + otherwise((0, 1, 3, 4)):
            self.assertIs(is_thick(web, 1, thing), form(thing) in right, thing)

    def test_what_is_neither(self):
        for thing in odd_things() + [0, 1, -1, (2, 1, 0, 0), (0, 1, 1), (0, 1, 3), (1, 2, 3), ()]:
            self.assertIs(is_thin(triangle(), 2, thing), False)
            self.assertIs(is_thick(triangle(), 2, thing), False)
        for thing in odd_things():
            for row in ((thing,), (0, thing), (0, 1, thing), (thing, 1, 2)):
                self.assertIs(is_thin(triangle(), 6, row), False)
                self.assertIs(is_thick(triangle(), 2, row), False)
        self.assertIs(is_thick(triangle(), 0, ()), False)
        self.assertIs(is_thick(triangle(), 0, (1,)), True)
        self.assertIs(is_thick(triangle(), 0, (1, 0)), False)

    def test_no_number(self):
        for thing in no_integer() + [-1, 7, 8, 10 ** 20 - 1]:
            for web in (triangle(), Web(1, ())):
                self.assert_kept(NoNumber, thin_order, web, thing)
                self.assert_kept(NoNumber, thick_lot, web, thing)
                self.assert_kept(NoNumber, is_thin, web, thing, None)
                self.assert_kept(NoNumber, is_thick, web, thing, ())


class FirstFit(Judging):

    def test_by_hand(self):
        web = Web(4, ((0, 1), (1, 2), (2, 3)))
        self.assert_same(first_fit(web, (0, 1, 2, 3)), (0, 1, 0, 1))
        self.assert_same(first_fit(web, (0, 3, 1, 2)), (0, 1, 2, 0))
        self.assert_same(first_fit(Web(2, ((0, 1), (0, 1))), (1, 0)), (1, 0))
        self.assert_same(first_fit(Web(1, ()), (0,)), (0,))
        self.assert_same(first_fit(all_tied(6), (5, 0, 4, 1, 3, 2)), (1, 3, 5, 4, 2, 0))

    def test_by_all_orders(self):
        for web in few_webs():
            orders = list(permutations(range(web.many)))[::1 + web.many // 6 * 6]
            if any(u == v for u, v in web.ties):
                for order in orders:
                    self.assert_kept(Selftied, first_fit, web, order)
                continue
            for order in orders:
                given = {}
                for place in order:
                    near = {given.get(other) for tie in web.ties if place in tie for other in tie if other != place}
                    given[place] = next(number for number in range(10) if number not in near)
                told = first_fit(web, order)
                self.assert_same(told, tuple(given[place] for place in range(web.many)))
                self.assertTrue(is_good(web, 10, told))
                self.assertLessEqual(max(told), thin_by(web, order))

    def test_errors(self):
        right = [form(order) for order in permutations(range(3))]
        for web in (triangle(), Web(3, ((1, 1),)), Web(3, ((0, 1), (2, 2)))):
            for thing in odd_things() + otherwise((1, 2, 0)) + [(0, 1, 1), (0, 1), (0, 1, 3), (1, 2, 3)]:
                if form(thing) not in right:
                    self.assert_kept(NoOrder, first_fit, web, thing)
        self.assert_kept(Selftied, first_fit, Web(3, ((1, 1),)), (0, 1, 2))


class ThinRow(Judging):

    def assert_leads(self, web, q, order, one, other):
        row = thin_row(web, q, order, one, other)
        self.assertIs(is_row_between(web, q, one, other, row), True, (web.ties, q, order, one, other, row))
        return row

    def test_all_pairs_of_small_webs(self):
        tried = 0
        webs = [web for web in few_webs() if web.many < 6] + [ring_of(4), Web(4, ((0, 1), (1, 2), (2, 3)))]
        for web in webs:
            for q in range(1, 5):
                pairs = list(product(paintings(web, q), repeat=2))
                for order in permutations(range(web.many)):
                    if thin_by(web, order) < q and pairs:
                        for one, other in pairs[tried % 7::1 + len(pairs) * (web.many > 2) // 30]:
                            self.assert_leads(web, q, order, one, other)
                            tried += 1
        self.assertGreater(tried, 5000)

    def test_every_pair(self):
        prism = Web(6, prism_ties())
        tried = [(triangle(), 3, list(permutations(range(3)))), (ring_of(5), 3, [(0, 2, 1, 4, 3), (4, 3, 2, 1, 0)])]
        tried += [(all_tied(4), 4, [(2, 0, 3, 1)]), (Web(4, ((0, 3), (1, 3), (2, 3))), 2, [(0, 3, 1, 2)])]
        for web, q, orders in tried + [(prism, 4, [thin_order(prism, 3)])]:
            good = paintings(web, q)
            for order in orders:
                for one, other in list(product(good, repeat=2))[::1 + len(good) // 60]:
                    self.assert_leads(web, q, order, one, other)

    def test_fact_of_thin_rows(self):
        for web in few_webs():
            for q in range(thinness(web) + 1, 5):
                self.assertLessEqual(len(shut_lots(web, q)), 1)

    def test_greater_webs(self):
        for web in greater_webs():
            if web == ladder():
                web = Web(8, web.ties[:7] + web.ties[8:])
            for q in range(thinness(web) + 1, 7):
                order = thin_order(web, q - 1)
                least = first_fit(web, order)
                others = [tuple(q - 1 - colour for colour in least), first_fit(web, thin_order(web, thinness(web)))]
                others += [tuple((colour + 1) % q for colour in first_fit(web, order))]
                for one, other in product([least] + others, repeat=2):
                    row = self.assert_leads(web, q, order, one, other)
                    self.assertLess(len(row), 2 ** web.many)

    def test_rows_are_right_though_a_place_is_in_the_way(self):
        # Place 2 is tied to both ends of a chain that is exchanged, so it takes a third colour first.
        web = Web(3, ((0, 2), (1, 2)))
        self.assert_leads(web, 3, (0, 1, 2), (0, 0, 1), (1, 1, 0))
        star = Web(4, ((0, 3), (1, 3), (2, 3)))
        for one, other in product(paintings(star, 4), repeat=2):
            self.assert_leads(star, 4, (0, 1, 2, 3), one, other)

    def test_nothing_to_lead(self):
        self.assert_same(thin_row(Web(1, ()), 1, (0,), (0,), (0,)), ())
        self.assert_same(thin_row(Web(3, ()), 1, (2, 0, 1), (0, 0, 0), (0, 0, 0)), ())
        self.assert_same(thin_row(Web(1, ()), 6, (0,), (2,), (5,)), ((0, 5),))

    def test_no_colours(self):
        for thing in no_integer() + [0, -1, 7, 10 ** 9]:
            self.assert_kept(NoColours, thin_row, triangle(), thing, (0, 1, 2), (0, 1, 2), (0, 1, 2))
            self.assert_kept(NoColours, thin_row, triangle(), thing, None, None, None)

    def test_no_order(self):
        right = [form(order) for order in permutations(range(3))]
        for thing in odd_things() + otherwise((1, 2, 0)) + [(0, 1, 1), (0, 1), (0, 1, 3)]:
            if form(thing) not in right:
                self.assert_kept(NoOrder, thin_row, triangle(), 3, thing, (0, 1, 2), (2, 1, 0))
                self.assert_kept(NoOrder, thin_row, triangle(), 3, thing, None, None)
        # Thin enough by 2 or more colours, or by one place less ahead.
        web = Web(3, ((0, 2), (1, 2)))
        self.assert_kept(NoOrder, thin_row, web, 2, (0, 1, 2), (0, 0, 1), (1, 1, 0))
        self.assert_kept(NoOrder, thin_row, web, 2, (0, 1, 2), None, None)
        self.assert_leads(web, 2, (0, 2, 1), (0, 0, 1), (1, 1, 0))
        self.assert_leads(web, 3, (0, 1, 2), (0, 0, 1), (1, 1, 0))
        self.assert_kept(NoOrder, thin_row, all_tied(6), 5, (0, 1, 2, 3, 4, 5), (0,) * 6, (0,) * 6)

    def test_no_painting(self):
        good = (0, 1, 2)
        for thing in odd_things() + otherwise(good) + [(0, 0, 1), (0, 1, 3), ()]:
            if form(thing) not in [form(row) for row in paintings(triangle(), 3)]:
                for pair in ((thing, good), (good, thing), (thing, thing)):
                    self.assert_kept(NoPainting, thin_row, triangle(), 3, (0, 1, 2), *pair)
        self.assert_kept(NoPainting, thin_row, Web(1, ((0, 0),)), 2, (0,), (0,), (1,))
