"""Points [6.1], [6.2]: chains, exchanges, rows of them, shut lists."""

from itertools import product

from takenjoined.errors import NoColour, NoColours, NoPainting, NoPlace, TooMany
from takenjoined.exchanges import chain, exchanged, is_row_between, is_shut, row_between, shut_lot, shut_lots
from takenjoined.paintings import is_good, painted, paintings
from takenjoined.webs import Web
from tests.things import (
    Judging, all_tied, form, lots, no_index, no_integer, odd_things, otherwise, petersen, ring_of, triangle, webs_of,
    wheel,
)


def few_webs():
    """List webs with numbers of colours for which all is tried."""
    webs = [web for many in (1, 2, 3) for web in webs_of(many, 2)]
    pairs = [(web, q) for web in webs for q in (1, 2, 3)] + [(triangle(), 3), (triangle(), 4), (ring_of(4), 3)]
    pairs += [(Web(4, ((0, 3), (0, 3), (1, 2), (1, 3))), 3), (Web(5, ((0, 1), (2, 3), (3, 4))), 2), (ring_of(5), 3)]
    return pairs + [(prism(), 3), (Web(4, ((0, 1), (2, 3))), 2), (all_tied(4), 4)]


def prism():
    """Two triangles with three ties between them: with three colours its good paintings fall into two shut lots."""
    return Web(6, ((0, 1), (0, 2), (1, 2), (3, 4), (3, 5), (4, 5), (0, 3), (1, 4), (2, 5)))


def chain_by_hand(web, painting, place, colour):
    both = {painting[place], colour}
    held = {place}
    for _ in range(web.many):
        for u, v in web.ties:
            if {painting[u], painting[v]} == both and held & {u, v}:
                held |= {u, v}
    return tuple(sorted(held))


def exchange_by_hand(web, painting, place, colour):
    held = chain_by_hand(web, painting, place, colour)
    other = {colour: painting[place], painting[place]: colour}
    return tuple(other[own] if at in held else own for at, own in enumerate(painting))


def exchanges(web, q, painting):
    """List all pairs of an exchange by the least place of its chain, and what they lead to."""
    found = []
    for place, colour in product(range(web.many), range(q)):
        if colour != painting[place] and chain_by_hand(web, painting, place, colour)[0] == place:
            found.append(((place, colour), exchange_by_hand(web, painting, place, colour)))
    return found


def least_rows(web, q, one):
    """Tell for each painting that rows lead to the least one of the shortest, told from the front."""
    rows = {one: ()}
    level = {one: ()}
    while level:
        ahead = {}
        for here, row in level.items():
            for pair, there in exchanges(web, q, here):
                if there not in rows:
                    ahead[there] = min(ahead.get(there, row + (pair,)), row + (pair,))
        rows.update(ahead)
        level = ahead
    return rows


def is_row_by_words(web, q, one, other, thing):
    if type(thing) is not tuple:
        return False
    for pair in thing:
        if type(pair) is not tuple or [type(part) for part in pair] != [int, int]:
            return False
        place, colour = pair
        if place not in range(web.many) or colour not in range(q) or colour == one[place]:
            return False
        one = exchange_by_hand(web, one, place, colour)
    return one == other


def no_few_colours():
    return no_integer() + [0, -1, 7, 8, 10 ** 9, 10 ** 20 - 1]


class Chains(Judging):

    def test_by_hand(self):
        web = Web(6, ((0, 1), (1, 2), (2, 3), (3, 4), (3, 4)))
        painting = (0, 1, 0, 1, 2, 0)
        self.assert_same(chain(web, 3, painting, 2, 1), (0, 1, 2, 3))
        self.assert_same(chain(web, 3, painting, 4, 1), (3, 4))
        self.assert_same(chain(web, 3, painting, 4, 0), (4,))
        self.assert_same(chain(web, 3, painting, 5, 1), (5,))
        self.assert_same(exchanged(web, 3, painting, 2, 1), (1, 0, 1, 0, 2, 0))
        self.assert_same(exchanged(web, 3, painting, 3, 2), (0, 1, 0, 2, 1, 0))
        self.assert_same(exchanged(web, 3, painting, 5, 2), (0, 1, 0, 1, 2, 2))
        self.assert_same(painting, (0, 1, 0, 1, 2, 0))
        self.assert_same(chain(ring_of(10), 2, (0, 1) * 5, 7, 0), tuple(range(10)))

    def test_all(self):
        for web, q in few_webs() + [(petersen(), 3), (wheel(), 4)]:
            for painting in paintings(web, q)[:60]:
                for place, colour in product(range(web.many), range(q)):
                    if colour == painting[place]:
                        self.assert_kept(NoColour, chain, web, q, painting, place, colour)
                        self.assert_kept(NoColour, exchanged, web, q, painting, place, colour)
                        continue
                    told = chain(web, q, painting, place, colour)
                    self.assert_same(told, chain_by_hand(web, painting, place, colour))
                    there = exchanged(web, q, painting, place, colour)
                    self.assert_same(there, exchange_by_hand(web, painting, place, colour))
                    # The fact of chains.
                    self.assertTrue(is_good(web, q, there))
                    self.assert_same(chain(web, q, there, place, painting[place]), told)
                    self.assert_same(exchanged(web, q, there, place, painting[place]), painting)

    def test_bounds_of_q(self):
        self.assert_same(chain(triangle(), 6, (5, 0, 1), 0, 4), (0,))
        self.assert_same(chain(triangle(), 6, (5, 0, 1), 0, 1), (0, 2))
        self.assert_kept(NoColour, chain, Web(1, ()), 1, (0,), 0, 0)
        for call in (chain, exchanged):
            for thing in no_few_colours():
                self.assert_kept(NoColours, call, triangle(), thing, (0, 1, 2), 0, 1)
                self.assert_kept(NoColours, call, triangle(), thing, None, None, None)

    def test_no_painting(self):
        right = [form(row) for row in paintings(triangle(), 3)]
        things = [thing for thing in odd_things() + otherwise((0, 1, 2)) if form(thing) not in right]
        for call in (chain, exchanged):
            for thing in things + [(0, 0, 1), (0, 1, 3), ()]:
                self.assert_kept(NoPainting, call, triangle(), 3, thing, 0, 1)
                self.assert_kept(NoPainting, call, triangle(), 3, thing, 3, None)

    def test_no_place_and_no_colour(self):
        for call in (chain, exchanged):
            for thing in no_index(3):
                self.assert_kept(NoPlace, call, triangle(), 4, (0, 1, 2), thing, 3)
                self.assert_kept(NoPlace, call, triangle(), 4, (0, 1, 2), thing, thing)
            for thing in no_index(4):
                self.assert_kept(NoColour, call, triangle(), 4, (0, 1, 2), 1, thing)
            self.assert_kept(NoColour, call, triangle(), 4, (0, 1, 2), 1, 1)


class Rows(Judging):

    def test_by_hand(self):
        self.assert_same(row_between(Web(1, ()), 3, (0,), (2,)), ((0, 2),))
        self.assert_same(row_between(Web(1, ()), 1, (0,), (0,)), ())
        self.assert_same(row_between(Web(2, ()), 2, (0, 0), (1, 1)), ((0, 1), (1, 1)))
        self.assert_same(row_between(Web(2, ((0, 1),)), 2, (0, 1), (1, 0)), ((0, 1),))
        self.assert_same(row_between(triangle(), 3, (0, 1, 2), (1, 2, 0)), ((0, 1), (1, 2)))

    def test_all_pairs(self):
        for web, q in few_webs():
            good = paintings(web, q)
            for one in good[:40]:
                rows = least_rows(web, q, one)
                for other in good:
                    told = row_between(web, q, one, other)
                    self.assert_same(told, rows.get(other))
                    if told is not None:
                        self.assertIs(is_row_between(web, q, one, other, told), True)

    def test_far_ones(self):
        for web, q in ((petersen(), 3), (wheel(), 4), (ring_of(9), 3), (Web(10, ()), 2), (Web(10, prism().ties), 2)):
            good = paintings(web, q)
            for one in good[:1] + good[-1:]:
                rows = least_rows(web, q, one)
                for other in good[:3] + good[len(good) // 2:][:2] + good[-2:]:
                    self.assert_same(row_between(web, q, one, other), rows.get(other))

    def test_no_row(self):
        good = paintings(prism(), 3)
        told = [row_between(prism(), 3, good[0], other) is None for other in good]
        self.assertEqual((told.count(True), told.count(False)), (len(good) // 2,) * 2)

    def test_longer_rows_and_other_places(self):
        for web, q in few_webs():
            for one in paintings(web, q)[:4]:
                here, row = one, ()
                for step in range(9):
                    ways = exchanges(web, q, here)
                    if not ways:
                        break
                    (place, colour), there = ways[step * 5 % len(ways)]
                    # Any other place of the chain, too, with whichever of both colours it has not.
                    other = chain_by_hand(web, here, place, colour)[-1]
                    row += ((other, here[place] + colour - here[other]),)
                    here = there
                    self.assertIs(is_row_between(web, q, one, here, row), True)
                    self.assertIs(is_row_between(web, q, one, one, row), here == one)
                    more = row + ((place, one[place]),) * 2
                    self.assertIs(is_row_between(web, q, one, here, more), is_row_by_words(web, q, one, here, more))

    def test_rows_that_do_not_lead_there(self):
        one, other = (0, 1, 2), (1, 0, 2)
        self.assertIs(is_row_between(triangle(), 3, one, other, ((0, 1),)), True)
        self.assertIs(is_row_between(triangle(), 3, one, other, ((1, 0),)), True)
        self.assertIs(is_row_between(triangle(), 3, one, other, ((0, 1), (0, 0), (1, 0))), True)
        self.assertIs(is_row_between(triangle(), 3, one, other, ((0, 1), (0, 0)) * 1000 + ((0, 1),)), True)
        self.assertIs(is_row_between(triangle(), 3, one, other, ((0, 1), (0, 1), (0, 1))), False)
        for row in ((), ((0, 2),), ((0, 0),), ((3, 0),), ((0, 3),), ((0, 1), (0, 0)), ((-1, 1),), ((0, -1),)):
            self.assertIs(is_row_between(triangle(), 3, one, other, row), False)
        self.assertIs(is_row_between(triangle(), 3, one, one, ()), True)

    def test_one_thing_otherwise(self):
        for web, q in ((triangle(), 3), (ring_of(4), 3), (Web(2, ()), 2), (prism(), 3)):
            good = paintings(web, q)
            for one, other in list(product(good, repeat=2))[::11][:30]:
                row = row_between(web, q, one, other)
                for thing in otherwise(row):
                    self.assertIs(is_row_between(web, q, one, other, thing), is_row_by_words(web, q, one, other, thing))

    def test_what_is_no_row(self):
        for wrong in odd_things():
            for thing in (wrong, (wrong,), ((0, wrong),), ((wrong, 1),), ((0, 1), wrong), ((0, 1, wrong),)):
                due = is_row_by_words(triangle(), 3, (0, 1, 2), (1, 0, 2), thing)
                self.assertIs(is_row_between(triangle(), 3, (0, 1, 2), (1, 0, 2), thing), due)
        self.assertIs(is_row_between(triangle(), 3, (0, 1, 2), (1, 0, 2), [(0, 1)]), False)
        self.assertIs(is_row_between(triangle(), 3, (0, 1, 2), (1, 0, 2), ([0, 1],)), False)
        self.assertIs(is_row_between(triangle(), 3, (0, 1, 2), (1, 0, 2), ((False, 1),)), False)
        self.assertIs(is_row_between(triangle(), 3, (0, 1, 2), (1, 0, 2), ((0, True),)), False)

    def test_errors(self):
        good = (0, 1, 2)
        for thing in no_few_colours():
            self.assert_kept(NoColours, row_between, triangle(), thing, good, good)
            self.assert_kept(NoColours, row_between, triangle(), thing, None, good)
            self.assert_kept(NoColours, is_row_between, triangle(), thing, good, None, None)
        for thing in odd_things() + [(0, 0, 1), (0, 1, 3), (), (0, 1, True), [0, 1, 2]]:
            for pair in ((thing, good), (good, thing), (thing, thing)):
                self.assert_kept(NoPainting, row_between, triangle(), 3, *pair)
                self.assert_kept(NoPainting, is_row_between, triangle(), 3, *pair, ())
        self.assert_kept(NoPainting, row_between, Web(10, ()), 6, (0,) * 10, (6,) * 10)

    def test_too_many(self):
        web = Web(7, ((0, 2), (0, 4), (1, 6), (2, 3), (2, 5), (4, 5)))
        self.assertEqual(painted(web, 4), 3024)
        error = self.assert_kept(TooMany, row_between, web, 4, (0, 1, 1, 0, 1, 0, 0), (1, 0, 0, 1, 0, 1, 1))
        self.assertEqual(error.most, 3000)
        self.assert_kept(TooMany, shut_lots, web, 4)
        self.assert_kept(TooMany, shut_lot, web, 4, (0, 1, 1, 0, 1, 2, 0))
        for web, q in ((Web(5, ()), 5), (Web(10, ()), 3), (Web(10, ()), 6)):
            error = self.assert_kept(TooMany, row_between, web, q, (0,) * web.many, (1,) * web.many)
            self.assertEqual(error.most, 3000)
            self.assertEqual(self.assert_kept(TooMany, shut_lots, web, q).most, 3000)
            self.assertEqual(self.assert_kept(TooMany, shut_lot, web, q, (0,) * web.many).most, 3000)
            self.assertIs(is_row_between(web, q, (0,) * web.many, (0,) * web.many, ()), True)
            self.assertIs(is_shut(web, q, [(0,) * web.many]), False)

    def test_just_not_too_many(self):
        web = Web(5, ((0, 1), (1, 2), (1, 3), (2, 3), (3, 4)))
        self.assertEqual(painted(web, 6), 3000)
        told = shut_lots(web, 6)
        self.assertEqual([len(lot) for lot in told], [3000])
        self.assert_same(shut_lot(web, 6, (0, 1, 0, 2, 0)), told[0])
        self.assertEqual(len(row_between(web, 6, (0, 1, 0, 2, 0), (1, 0, 1, 2, 0))), 1)
        web = Web(6, ((1, 2), (1, 4), (1, 5), (2, 3), (2, 4), (3, 4), (3, 5)))
        self.assertEqual(painted(web, 5), 3000)
        self.assertEqual(sum(len(lot) for lot in shut_lots(web, 5)), 3000)


class Shut(Judging):

    def due_lots(self, web, q):
        left = paintings(web, q)
        found = []
        while left:
            held = {left[0]}
            waiting = [left[0]]
            while waiting:
                ahead = {there for _, there in exchanges(web, q, waiting.pop())} - held
                held |= ahead
                waiting += ahead
            found.append(sorted(held))
            left = [painting for painting in left if painting not in held]
        return found

    def test_lots(self):
        self.assert_same(shut_lots(triangle(), 2), [])
        self.assert_same(shut_lots(Web(1, ((0, 0),)), 6), [])
        self.assert_same(shut_lots(Web(2, ((0, 1),)), 2), [[(0, 1), (1, 0)]])
        self.assertEqual([len(lot) for lot in shut_lots(prism(), 3)], [6, 6])
        for web, q in few_webs() + [(petersen(), 3), (wheel(), 4)]:
            told = shut_lots(web, q)
            self.assert_same(told, self.due_lots(web, q))
            self.assert_same(sorted(painting for lot in told for painting in lot), paintings(web, q))
            for lot in told:
                self.assertIs(is_shut(web, q, lot), True)
                for painting in lot[::7]:
                    self.assert_same(shut_lot(web, q, painting), lot)

    def test_fact_of_rows(self):
        for web, q in few_webs():
            told = shut_lots(web, q)
            good = paintings(web, q)
            for one, other in list(product(good, repeat=2))[::5]:
                shared = [lot for lot in told if one in lot and other in lot]
                self.assertEqual(row_between(web, q, one, other) is not None, len(shared) == 1)

    def test_new_each_time(self):
        told = shut_lots(triangle(), 3)
        told[0].clear()
        shut_lot(triangle(), 3, (0, 1, 2)).clear()
        self.assertEqual([len(lot) for lot in shut_lots(triangle(), 3)], [6])

    def test_is_shut_of_all_lists(self):
        for web, q in ((Web(4, ((0, 1), (1, 2), (2, 3))), 2), (Web(2, ((0, 1),)), 3), (Web(4, ((0, 1), (2, 3))), 2)):
            good = paintings(web, q)
            least = shut_lots(web, q)
            for lot in lots(len(good)):
                thing = [good[at] for at in lot]
                due = bool(thing) and all(not set(thing) & set(one) or set(one) <= set(thing) for one in least)
                self.assertIs(is_shut(web, q, thing), due)

    def test_what_is_not_shut(self):
        one, other = shut_lots(prism(), 3)
        both = sorted(one + other)
        self.assertIs(is_shut(prism(), 3, both), True)
        wrong = [one + other, one[::-1], one[:1] + one, one + one[-1:], one[1:], one[:-1], tuple(one), [], ()]
        wrong += [both[:-1], [list(painting) for painting in one], [one], one + [(0, 0, 0, 0, 0, 0)],
                  one + [(0, 1, 2, 1, 2, 3)]]
        for thing in [thing for thing in wrong if thing != both]:
            self.assertIs(is_shut(prism(), 3, thing), False)
        two = [(0, 1), (1, 0)]
        edge = Web(2, ((0, 1),))
        for thing in otherwise(two):
            self.assertIs(is_shut(edge, 2, thing), form(thing) == form(two), thing)
        for thing in odd_things():
            for given in (thing, [thing], [thing, (0, 1)], [(0, thing)], [(0, 1), (1, 0), thing]):
                self.assertIs(is_shut(edge, 2, given), False)
                self.assertIs(is_shut(Web(1, ()), 2, given), False)
        self.assertIs(is_shut(edge, 1, []), False)
        self.assertIs(is_shut(Web(1, ()), 1, [(0,)]), True)

    def test_errors(self):
        for thing in no_few_colours():
            self.assert_kept(NoColours, is_shut, triangle(), thing, [])
            self.assert_kept(NoColours, shut_lot, triangle(), thing, None)
            self.assert_kept(NoColours, shut_lots, triangle(), thing)
            self.assert_kept(NoColours, shut_lots, Web(10, ()), thing)
        for thing in odd_things() + [(0, 0, 1), (0, 1, 3), ()]:
            self.assert_kept(NoPainting, shut_lot, triangle(), 3, thing)
            self.assert_kept(NoPainting, shut_lot, Web(10, ()), 6, thing)
