"""Points [1.1] and [1.2]: webs, and webs made from webs."""

from itertools import permutations

from takenjoined.errors import BadWeb, Full, NoOrder, NoPlace, NoTie
from takenjoined.webs import Web, beside, glued, joined, renamed, taken
from tests.things import Judging, ladder, nested, no_index, odd_things, petersen, small_webs, triangle, wheel

LINE = ((0, 1),)


class Making(Judging):

    def assert_bad(self, part, many, ties):
        self.assert_same(self.assert_kept(BadWeb, Web, many, ties).part, part)

    def test_attributes(self):
        ties = ((0, 1), (1, 1), (0, 1), (0, 2))
        self.assert_web(Web(3, ties), 3, ties)
        self.assert_web(Web(1, ()), 1, ())
        self.assertEqual(sorted(vars(Web(3, ties))), ["many", "ties"])

    def test_many(self):
        for many in range(1, 11):
            self.assert_web(Web(many, ()), many, ())
        for many in (0, 11, -1, 12, 10 ** 20 - 1, 1 - 10 ** 20):
            self.assert_bad("many", many, ())
        for thing in odd_things() + [(), (3,), (1, 2)]:
            self.assert_bad("many", thing, ())

    def test_how_many_ties(self):
        self.assert_web(Web(1, ((0, 0),) * 16), 1, ((0, 0),) * 16)
        self.assert_web(Web(2, LINE * 16), 2, LINE * 16)
        for count in (17, 18, 100):
            self.assert_bad("ties", 2, LINE * count)

    def test_ties_is_no_tuple(self):
        for thing in odd_things() + [0, 1, 16, -1]:
            if not isinstance(thing, tuple):
                self.assert_bad("ties", 2, thing)
        self.assert_bad("ties", 2, [(0, 1)])
        self.assert_bad("ties", 2, [])
        self.assert_bad("ties", 2, (None,) * 100000)

    def test_tie_is_no_pair_of_places(self):
        wrong = [(0, 3), (3, 3), (1, 0), (2, 1), (-1, 0), (-1, -1), (-1, 2), (0, -1), (0, 10 ** 19), (-10 ** 19, 0)]
        wrong += [(), (0,), (0, 1, 2), (0, 1, 1), [0, 1], "01", b"01", 0, 1, range(2), {0: 1, 1: 2}]
        wrong += [(True, 1), (0, True), (False, 1), (False, False), (True, True), ((0,), 1), (0, (1,)), (0, [1])]
        wrong += [("0", 1), (0, "1"), (None, 1), (0, None), (0, {}), (Web(1, ()), 1), (0, Web(1, ()))]
        for thing in wrong + odd_things() + [(0, nested(tuple, 38)), (nested(dict, 38), 0)]:
            self.assert_bad(0, 3, (thing,))
            self.assert_bad(2, 3, ((0, 1), (2, 2), thing))
            self.assert_bad(15, 3, ((0, 1),) * 15 + (thing,))

    def test_greatest_place(self):
        for many in (1, 2, 9, 10):
            ties = ((0, many - 1), (many - 1, many - 1))
            self.assert_web(Web(many, ties), many, ties)
            self.assert_bad(1, many, ((0, 0), (0, many)))
            self.assert_bad(0, many, ((many, many),))

    def test_which_part_is_named(self):
        self.assert_bad("many", 0, [(0, 1)])
        self.assert_bad("many", 11, LINE * 17)
        self.assert_bad("many", True, ((0, 0),))
        self.assert_bad("many", None, None)
        self.assert_bad("many", 0, ((0, 1),))
        self.assert_bad("ties", 2, ((1, 0),) * 17)
        self.assert_bad("ties", 2, [None])
        self.assert_bad(1, 2, ((0, 1), (1, 0), None, (0, 2)))
        self.assert_bad(0, 2, (None, (1, 0)))
        self.assert_bad(2, 2, ((0, 1), (0, 0), (0, 2), [0, 1]))

    def test_equal(self):
        self.assertTrue(Web(2, LINE) == Web(2, ((0, 1),)))
        self.assertFalse(Web(2, LINE) != Web(2, ((0, 1),)))
        unlike = [Web(2, LINE), Web(3, LINE), Web(2, ()), Web(2, LINE * 2), Web(2, ((0, 0),)), Web(2, ((1, 1),))]
        unlike += [Web(3, ((0, 1), (0, 2))), Web(3, ((0, 2), (0, 1))), Web(1, ())]
        for k, one in enumerate(unlike):
            for j, other in enumerate(unlike):
                self.assertIs(one == other, k == j)
                self.assertIs(one != other, k != j)

    def test_equal_to_nothing_else(self):
        class Like:
            many = 2
            ties = LINE

        class Fond:
            def __eq__(self, other):
                return True

        web = Web(2, LINE)
        for thing in odd_things() + [(2, LINE), [2, LINE], {"many": 2, "ties": LINE}, 2, LINE, Like(), NoTie()]:
            self.assertIs(web == thing, False)
            self.assertIs(thing == web, False)
            self.assertIs(web != thing, True)
        self.assertIs(web == Fond(), False)

    def test_a_call_that_raises_leaves_the_web(self):
        web = Web(3, LINE)
        for given in ((0, ()), (2, []), (2, ((0, 1), (0, 2)))):
            with self.assertRaises(BadWeb):
                web.__init__(*given)
            self.assert_web(web, 3, LINE)


class TakenAndJoined(Judging):

    def test_example_e02(self):
        self.assert_web(joined(triangle(), 0), 2, ((0, 1), (0, 1)))
        self.assert_web(taken(triangle(), 0), 3, ((0, 2), (1, 2)))
        self.assertEqual(joined(triangle(), 0), Web(2, ((0, 1), (0, 1))))
        self.assertEqual(taken(triangle(), 0), Web(3, ((0, 2), (1, 2))))

    def test_taken(self):
        web = Web(4, ((0, 1), (1, 3), (2, 2), (1, 3), (0, 3)))
        self.assert_web(taken(web, 0), 4, ((1, 3), (2, 2), (1, 3), (0, 3)))
        self.assert_web(taken(web, 2), 4, ((0, 1), (1, 3), (1, 3), (0, 3)))
        self.assert_web(taken(web, 3), 4, ((0, 1), (1, 3), (2, 2), (0, 3)))
        self.assert_web(taken(web, 4), 4, ((0, 1), (1, 3), (2, 2), (1, 3)))
        self.assert_web(taken(Web(2, LINE), 0), 2, ())

    def test_joined(self):
        web = Web(5, ((0, 4), (1, 3), (3, 4), (0, 3), (1, 2), (2, 3), (2, 2), (1, 3), (3, 3)))
        self.assert_web(joined(web, 1), 4, ((0, 3), (1, 3), (0, 1), (1, 2), (1, 2), (2, 2), (1, 1), (1, 1)))
        self.assert_web(joined(web, 0), 4, ((1, 3), (0, 3), (0, 3), (1, 2), (2, 3), (2, 2), (1, 3), (3, 3)))
        self.assert_web(joined(web, 5), 4, ((0, 3), (1, 2), (2, 3), (0, 2), (1, 2), (2, 2), (1, 2), (2, 2)))
        self.assert_web(joined(Web(2, LINE), 0), 1, ())

    def test_joined_turns_a_tie_around(self):
        self.assert_web(joined(Web(4, ((0, 3), (1, 3), (2, 3))), 0), 3, ((0, 1), (0, 2)))
        self.assert_web(joined(Web(3, ((1, 2), (0, 2))), 1), 2, ((0, 1),))

    def test_joined_makes_selfties_of_alike_ties(self):
        self.assert_web(joined(Web(2, LINE * 3), 1), 1, ((0, 0), (0, 0)))

    def test_joined_of_a_selftie_is_taken(self):
        web = Web(3, ((0, 1), (1, 1), (1, 2), (2, 2)))
        self.assert_web(joined(web, 1), 3, ((0, 1), (1, 2), (2, 2)))
        self.assert_web(joined(web, 3), 3, ((0, 1), (1, 1), (1, 2)))
        self.assert_web(joined(Web(1, ((0, 0),)), 0), 1, ())

    def test_places_told_by_name(self):
        for web in small_webs():
            for tie, (u, v) in enumerate(web.ties):
                ties = [list(other) for k, other in enumerate(web.ties) if k != tie]
                self.assert_web(taken(web, tie), web.many, tuple(tuple(other) for other in ties))
                for other in ties:
                    for end in (0, 1):
                        other[end] = u if other[end] == v else other[end]
                        other[end] -= u != v and other[end] > v
                self.assert_web(joined(web, tie), web.many - (u != v), tuple(tuple(sorted(other)) for other in ties))

    def test_no_tie(self):
        for call in (taken, joined):
            for web in (Web(1, ()), Web(3, ()), Web(2, LINE), Web(1, ((0, 0),)), triangle(), petersen()):
                for thing in no_index(len(web.ties)):
                    if not (type(thing) is int and 0 <= thing < len(web.ties)):
                        self.assert_kept(NoTie, call, web, thing)

    def test_web_stays(self):
        for web in (triangle(), wheel(), ladder()):
            many, ties = web.many, web.ties
            for tie in range(len(ties)):
                taken(web, tie)
                joined(web, tie)
            self.assert_web(web, many, ties)


class BesideAndGlued(Judging):

    def test_beside(self):
        one, other = Web(3, ((0, 2), (1, 1))), Web(2, ((0, 1), (0, 0), (1, 1)))
        self.assert_web(beside(one, other), 5, ((0, 2), (1, 1), (3, 4), (3, 3), (4, 4)))
        self.assert_web(beside(other, one), 5, ((0, 1), (0, 0), (1, 1), (2, 4), (3, 3)))
        self.assert_web(beside(one, one), 6, ((0, 2), (1, 1), (3, 5), (4, 4)))
        self.assert_web(beside(Web(1, ()), Web(1, ())), 2, ())

    def test_beside_full(self):
        for many in range(1, 11):
            for more in range(1, 11):
                if many + more > 10:
                    self.assert_kept(Full, beside, Web(many, ()), Web(more, ()))
                else:
                    self.assert_web(beside(Web(many, ()), Web(more, ())), many + more, ())
        for count in range(17):
            one, other = Web(2, LINE * count), Web(2, LINE * (16 - count))
            self.assert_web(beside(one, other), 4, LINE * count + ((2, 3),) * (16 - count))
            if count:
                self.assert_kept(Full, beside, one, Web(2, LINE * (17 - count)))

    def test_glued(self):
        one, other = Web(3, ((0, 2), (1, 1))), Web(4, ((0, 1), (1, 2), (0, 3), (1, 1), (2, 3)))
        self.assert_web(glued(one, other, 1, 1), 6, ((0, 2), (1, 1), (1, 3), (1, 4), (3, 5), (1, 1), (4, 5)))
        self.assert_web(glued(one, other, 2, 0), 6, ((0, 2), (1, 1), (2, 3), (3, 4), (2, 5), (3, 3), (4, 5)))
        self.assert_web(glued(one, other, 0, 3), 6, ((0, 2), (1, 1), (3, 4), (4, 5), (0, 3), (4, 4), (0, 5)))
        self.assert_web(glued(other, one, 3, 2), 6, other.ties + ((3, 4), (5, 5)))
        self.assert_web(glued(Web(1, ()), Web(1, ((0, 0),)), 0, 0), 1, ((0, 0),))
        self.assert_web(glued(Web(2, LINE), Web(1, ()), 1, 0), 2, LINE)

    def test_glued_by_names(self):
        for one in (Web(1, ((0, 0),)), Web(2, LINE), triangle()):
            for other in small_webs()[:60] + [triangle(), ladder(), wheel()]:
                for u in range(one.many):
                    for v in range(other.many):
                        rest = [place for place in range(other.many) if place != v]
                        names = {place: one.many + k for k, place in enumerate(rest)}
                        names[v] = u
                        ties = tuple(tuple(sorted((names[a], names[b]))) for a, b in other.ties)
                        self.assert_web(glued(one, other, u, v), one.many + len(rest), one.ties + ties)

    def test_glued_no_place(self):
        one, other = Web(3, ((0, 2),)), Web(2, LINE)
        for thing in no_index(3) + [10]:
            if not (type(thing) is int and 0 <= thing < 3):
                self.assert_kept(NoPlace, glued, one, other, thing, 0)
        for thing in no_index(2) + [2, 10]:
            if not (type(thing) is int and 0 <= thing < 2):
                self.assert_kept(NoPlace, glued, one, other, 0, thing)
                self.assert_kept(NoPlace, glued, one, other, thing, thing)
        self.assert_web(glued(one, other, 2, 1), 4, ((0, 2), (2, 3)))
        self.assert_kept(NoPlace, glued, other, one, 2, 1)

    def test_glued_full(self):
        for many in range(1, 11):
            for more in range(1, 11):
                one, other = Web(many, ()), Web(more, ())
                if many + more > 11:
                    self.assert_kept(Full, glued, one, other, many - 1, more - 1)
                    self.assert_kept(NoPlace, glued, one, other, many, 0)
                    self.assert_kept(NoPlace, glued, one, other, 0, more)
                    self.assert_kept(NoPlace, glued, one, other, None, None)
                else:
                    self.assert_web(glued(one, other, many - 1, more - 1), many + more - 1, ())
        for count in range(17):
            one = Web(2, LINE * count)
            ties = LINE * count + ((1, 2),) * (16 - count)
            self.assert_web(glued(one, Web(2, LINE * (16 - count)), 1, 0), 3, ties)
            if count:
                self.assert_kept(Full, glued, one, Web(2, LINE * (17 - count)), 1, 0)
                self.assert_kept(NoPlace, glued, one, Web(2, LINE * (17 - count)), 2, 0)
                self.assert_kept(NoPlace, glued, one, Web(2, LINE * (17 - count)), 0, [0])

    def test_both_stay(self):
        one, other = ladder(), Web(2, LINE)
        beside(one, other)
        glued(one, other, 7, 1)
        glued(other, one, 0, 3)
        self.assertEqual((one, other), (ladder(), Web(2, LINE)))


class Renamed(Judging):

    def test_renamed(self):
        web = Web(4, ((0, 1), (1, 3), (2, 2), (1, 3), (0, 3)))
        self.assert_web(renamed(web, (2, 0, 3, 1)), 4, ((0, 2), (0, 1), (3, 3), (0, 1), (1, 2)))
        self.assert_web(renamed(web, (1, 2, 3, 0)), 4, ((1, 2), (0, 2), (3, 3), (0, 2), (0, 1)))
        self.assert_web(renamed(web, (0, 1, 2, 3)), 4, web.ties)
        self.assert_web(renamed(Web(1, ((0, 0),)), (0,)), 1, ((0, 0),))
        self.assert_web(renamed(Web(3, ()), (2, 1, 0)), 3, ())

    def test_there_and_back(self):
        for web in small_webs():
            if web.many < 5:
                for order in permutations(range(web.many)):
                    back = tuple(order.index(place) for place in range(web.many))
                    there = renamed(web, order)
                    self.assertEqual(renamed(there, back), web)
                    self.assertEqual([{order[u], order[v]} for u, v in web.ties], [set(tie) for tie in there.ties])

    def test_no_order(self):
        web = triangle()
        wrong = [(), (0,), (0, 1), (0, 1, 2, 3), (0, 1, 2, 2), (0, 1, 1), (0, 0, 0), (1, 2, 3), (0, 1, 3), (-1, 0, 1)]
        wrong += [[0, 1, 2], range(3), "012", b"\x00\x01\x02", {0: 0, 1: 1, 2: 2}, iter((0, 1, 2)), 0, 3]
        wrong += [(0, True, 2), (False, 1, 2), (0, 1, "2"), (0, 1, None), (0, [], 1), (0, (1,), 2), (0, 1, (2,))]
        wrong += [(0, 1, 10 ** 19), (0, 1, -10 ** 19), (0, 1, nested(tuple, 39)), (0, 1, nested(dict, 39)), web]
        for thing in wrong + odd_things():
            self.assert_kept(NoOrder, renamed, web, thing)
        for thing in (0, False, (False,), (1,), (), (0, 0), [0], None):
            self.assert_kept(NoOrder, renamed, Web(1, ()), thing)

    def test_web_stays(self):
        web = wheel()
        renamed(web, (4, 3, 2, 1, 0))
        self.assertEqual(web, wheel())
