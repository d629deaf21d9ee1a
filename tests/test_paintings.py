"""Point [2.1]: is_painting, is_good, painted, paintings."""

from itertools import product

from takenjoined.errors import NoColours, TooMany
from takenjoined.paintings import is_good, is_painting, painted, paintings
from takenjoined.webs import Web
from tests.things import (
    Judging, all_tied, crowded, form, ladder, no_colours, odd_things, otherwise, petersen, ring_of, small_webs,
    triangle,
)


def goods(web, q):
    """List the good paintings out of all paintings."""
    every = product(range(q), repeat=web.many)
    return [colours for colours in every if all(colours[u] != colours[v] for u, v in web.ties)]


class IsPainting(Judging):

    def test_all_paintings(self):
        for web in (Web(1, ()), Web(2, ((0, 1),)), triangle(), Web(3, ((0, 1), (2, 2)))):
            for q in range(4):
                for colours in product(range(4), repeat=web.many):
                    right = max(colours) < q
                    self.assertIs(is_painting(web, q, colours), right)
                    self.assertIs(is_good(web, q, colours), right and colours in goods(web, q))

    def test_great_colours(self):
        web = Web(2, ((0, 1),))
        self.assertIs(is_painting(web, 10 ** 9, (10 ** 9 - 1, 0)), True)
        self.assertIs(is_painting(web, 10 ** 9, (10 ** 9, 0)), False)
        self.assertIs(is_good(web, 10 ** 9, (10 ** 9 - 1, 0)), True)
        self.assertIs(is_good(web, 10 ** 9, (10 ** 9 - 1, 10 ** 9 - 1)), False)

    def test_one_thing_otherwise(self):
        for web, colours in ((triangle(), (2, 0, 1)), (Web(2, ()), (0, 0)), (petersen(), goods(petersen(), 3)[40])):
            right = [form(row) for row in goods(web, 3)] if web.many < 10 else [form(row) for row in paintings(web, 3)]
            for thing in otherwise(colours):
                self.assertIs(is_good(web, 3, thing), form(thing) in right, thing)
                plain = isinstance(thing, tuple) and len(thing) == web.many and form(thing)[1][0][0] is int
                if not plain:
                    self.assertIs(is_painting(web, 3, thing), False, thing)

    def test_wrong_colours_in_a_row(self):
        web = Web(3, ())
        for wrong in odd_things() + [3, -1, 10 ** 19, (), (0,)]:
            for at in range(3):
                thing = (0,) * at + (wrong,) + (0,) * (2 - at)
                self.assertIs(is_painting(web, 3, thing), False)
                self.assertIs(is_good(web, 3, thing), False)

    def test_what_is_no_painting(self):
        for web in (triangle(), Web(1, ()), Web(2, ())):
            for thing in odd_things() + [(), 0, -1, (0,) * 11, (0, 0, 0, 0)]:
                due = web.many == 2 and form(thing) in (form((0, 1)), form((0, 0)))
                self.assertIs(is_painting(web, 2, thing), due)
                self.assertIs(is_good(web, 2, thing), due)

    def test_no_colours(self):
        for thing in no_colours():
            for web in (triangle(), Web(1, ((0, 0),))):
                self.assert_kept(NoColours, is_painting, web, thing, (0,) * web.many)
                self.assert_kept(NoColours, is_good, web, thing, (0, 1, 2))
                self.assert_kept(NoColours, is_good, web, thing, [])

    def test_changes_nothing(self):
        thing = [[0, 1], (2,)]
        self.assertIs(is_good(triangle(), 3, thing), False)
        self.assertEqual(thing, [[0, 1], (2,)])


class Painted(Judging):

    def test_one_by_one(self):
        for web in small_webs():
            for q in range(5 if web.many < 5 else 3):
                self.assert_same(painted(web, q), len(goods(web, q)))

    def test_bounds_of_q(self):
        for web in small_webs():
            selftied = any(u == v for u, v in web.ties)
            self.assert_same(painted(web, 0), 0)
            self.assert_same(painted(web, 1), 0 if web.ties else 1)
            if selftied:
                self.assert_same(painted(web, 10 ** 9), 0)
        q = 10 ** 9
        self.assert_same(painted(Web(10, ()), q), q ** 10)
        self.assert_same(painted(triangle(), q), q * (q - 1) * (q - 2))
        self.assert_same(painted(ring_of(10), q), (q - 1) ** 10 + q - 1)
        self.assert_same(painted(all_tied(6), 5), 0)

    def test_no_colours(self):
        for thing in no_colours():
            for web in (triangle(), Web(1, ((0, 0),)), petersen()):
                self.assert_kept(NoColours, painted, web, thing)
                self.assert_kept(NoColours, paintings, web, thing)


class Paintings(Judging):

    def test_all_ascending(self):
        for web in small_webs():
            for q in range(4 if web.many < 5 else 3):
                told = paintings(web, q)
                self.assert_same(told, goods(web, q))
                self.assert_same(told, sorted(told))

    def test_greater_webs(self):
        open_ladder = Web(8, ladder().ties[:7] + ladder().ties[8:])
        for web, q in ((petersen(), 3), (crowded(), 3), (open_ladder, 3), (all_tied(6), 6)):
            told = paintings(web, q)
            self.assertEqual(len(told), painted(web, q))
            self.assert_same(told[:5], sorted(told)[:5])
            self.assertEqual(told, sorted(set(told)))
            self.assertTrue(all(is_good(web, q, colours) for colours in told))

    def test_new_each_time(self):
        told = paintings(triangle(), 3)
        told.append(None)
        self.assertEqual(len(paintings(triangle(), 3)), 6)

    def test_none(self):
        # However great q is, nothing is gone through where there is no good painting.
        for q in (0, 1, 20001, 10 ** 9):
            self.assert_same(paintings(Web(10, ((9, 9),)), q), [])
            self.assert_same(paintings(Web(1, ((0, 0),)), q), [])
        self.assert_same(paintings(all_tied(6), 5), [])
        self.assert_same(paintings(Web(10, ()), 0), [])

    def test_too_many(self):
        told = paintings(Web(1, ()), 20000)
        self.assertEqual((told[0], told[-1], len(told)), ((0,), (19999,), 20000))
        for web, q in ((Web(1, ()), 20001), (Web(1, ()), 10 ** 9), (Web(2, ()), 142), (Web(2, ((0, 1),)), 142)):
            self.assertEqual(self.assert_kept(TooMany, paintings, web, q).most, 20000)
        self.assertEqual(len(paintings(Web(2, ((0, 1),)), 141)), 141 * 140)
        self.assertEqual(len(paintings(Web(2, ()), 141)), 141 * 141)
        self.assert_kept(TooMany, paintings, Web(10, ()), 10 ** 9)
