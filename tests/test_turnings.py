"""Points [5.1], [5.2], [5.3]: turned, leads, is_leading, rooted, only."""

from itertools import product

from takenjoined.counts import numbers
from takenjoined.errors import Apart, NoPlace, NoSigning, NoSource
from takenjoined.rings import parts, rings
from takenjoined.signings import rising, sources
from takenjoined.turnings import is_leading, leads, only, rooted, turned
from takenjoined.webs import Web
from tests.things import (
    Judging, all_tied, crowded, form, no_index, odd_things, otherwise, petersen, ring_of, triangle, webs_of, wheel,
)


def open_webs():
    """List small webs without selfties, some of them in parts."""
    webs = [web for many in (1, 2, 3) for web in webs_of(many, 4)] + webs_of(4, 3)
    webs += [ring_of(4), all_tied(4), Web(4, ((0, 3), (0, 3), (1, 2), (2, 3), (1, 3)))]
    webs += [Web(5, ((0, 1), (1, 4), (2, 4), (0, 2), (3, 4)))]
    return [web for web in webs if all(u != v for u, v in web.ties)]


def turned_by_hand(web, signing, place):
    return tuple(not flag if place in tie else flag for tie, flag in zip(web.ties, signing))


def led_to(web, signing):
    """List all signings to which turnings lead."""
    found = [signing]
    for here in found:
        for place in sources(web, here):
            there = turned_by_hand(web, here, place)
            if there not in found:
                found.append(there)
    return found


def gone_through(web, ring):
    """List the ties of a ring with the places from and to which they lead, as they are gone through for the count."""
    if len(ring) == 2:
        u, v = web.ties[ring[0]]
        return [(ring[0], u, v), (ring[1], v, u)]
    near = {}
    for tie in ring:
        for place in web.ties[tie]:
            near.setdefault(place, []).append((sum(web.ties[tie]) - place, tie))
    place = min(near)
    ahead, tie = min(near[place])
    steps = [(tie, place, ahead)]
    while len(steps) < len(ring):
        place = ahead
        ahead, tie = [pair for pair in near[place] if pair[1] != tie][0]
        steps.append((tie, place, ahead))
    return steps


def count(web, ring, signing):
    return sum(signing[tie] == (one < other) for tie, one, other in gone_through(web, ring))


def is_leading_by_words(web, signing, other, thing):
    """Tell by the words of the point whether a thing leads or bars."""
    if type(thing) is not tuple or not thing or type(thing[0]) is not str:
        return False
    if thing[0] == "row" and len(thing) == 2 and type(thing[1]) is tuple:
        here = signing
        for place in thing[1]:
            if type(place) is not int or place not in sources(web, here):
                return False
            here = turned_by_hand(web, here, place)
        return here == other
    if thing[0] != "ring" or len(thing) != 4 or form(thing[1]) not in [form(ring) for ring in rings(web)]:
        return False
    due = [count(web, thing[1], signing), count(web, thing[1], other)]
    return form(list(thing[2:])) == form(due) and due[0] != due[1]


class Turned(Judging):

    def test_by_hand(self):
        self.assert_same(turned(triangle(), (True, True, True), 0), (False, False, True))
        self.assert_same(turned(triangle(), (False, True, True), 1), (True, True, False))
        self.assert_same(turned(Web(3, ((0, 1),)), (True,), 2), (True,))
        self.assert_same(turned(Web(1, ()), (), 0), ())
        self.assert_same(turned(Web(2, ((0, 1), (0, 1))), (False, False), 1), (True, True))

    def test_every_source(self):
        for web in open_webs() + [wheel()]:
            for signing in rising(web):
                for place in range(web.many):
                    if place in sources(web, signing):
                        self.assert_same(turned(web, signing, place), turned_by_hand(web, signing, place))
                        self.assertIn(turned(web, signing, place), rising(web))
                    else:
                        self.assert_kept(NoSource, turned, web, signing, place)

    def test_no_source(self):
        for thing in no_index(3) + [1, 2]:
            self.assert_kept(NoSource, turned, triangle(), (True, True, True), thing)
        self.assert_kept(NoSource, turned, Web(1, ()), (), 1)

    def test_no_signing(self):
        for thing in wrong_signings():
            for place in (0, 1, 5, None):
                self.assert_kept(NoSigning, turned, triangle(), thing, place)
        # A place without ties is a source of it, but there is a round.
        self.assert_kept(NoSigning, turned, Web(4, triangle().ties), (True, False, True), 3)
        self.assert_kept(NoSigning, turned, Web(2, ((0, 0),)), (True,), 1)


def wrong_signings():
    """List what is no signing of the triangle without a round."""
    right = [form(row) for row in rising(triangle())]
    things = odd_things() + otherwise((True, True, False)) + [(), (True, False, True), (False, True, False)]
    return [thing for thing in things if form(thing) not in right]


class Leads(Judging):

    def test_counts(self):
        # Gone through from place 0 to place 1, the lesser one of its neighbours.
        web = Web(4, ((2, 3), (0, 1), (0, 3), (1, 2)))
        told = leads(web, (True, True, True, True), (False, False, True, True))
        self.assert_same(told, ("ring", (0, 1, 2, 3), 3, 1))
        # From place 0 to place 2, its tie with place 3 being the earlier one.
        web = Web(4, ((0, 3), (1, 2), (1, 3), (0, 2)))
        self.assert_same(leads(web, (True,) * 4, (True, True, True, False)), ("ring", (0, 1, 2, 3), 2, 1))
        self.assert_same(leads(triangle(), (True, True, True), (False, False, False)), ("ring", (0, 1, 2), 2, 1))

    def test_all_pairs(self):
        for web in open_webs():
            risen = rising(web)
            for signing in risen:
                come_to = led_to(web, signing)
                for other in risen:
                    told = leads(web, signing, other)
                    self.assertEqual(told[0], "row" if other in come_to else "ring")
                    self.assertTrue(is_leading_by_words(web, signing, other, told), (web.ties, signing, other, told))
                    self.assertIs(is_leading(web, signing, other, told), True)

    def test_just_one_of_both(self):
        for web in open_webs():
            risen = rising(web)
            for signing in risen[:4]:
                for other in risen:
                    bars = [ring for ring in rings(web) if count(web, ring, signing) != count(web, ring, other)]
                    self.assertEqual(leads(web, signing, other)[0], "ring" if bars else "row")
                    for ring in rings(web):
                        thing = ("ring", ring, count(web, ring, signing), count(web, ring, other))
                        self.assertIs(is_leading(web, signing, other, thing), ring in bars)

    def test_greater_webs(self):
        for web in (petersen(), crowded(), wheel(), ring_of(10), Web(10, crowded().ties[:9]), all_tied(6)):
            risen = rising(web)
            for signing in risen[3::len(risen) // 3]:
                self.assert_same(leads(web, signing, signing), ("row", ()))
                far = signing
                for place in (sources(web, signing) * 9)[:9]:
                    far = turned(web, far, sources(web, far)[-1] if place % 2 else sources(web, far)[0])
                for other in [far] + risen[1::len(risen) // 3]:
                    told = leads(web, signing, other)
                    self.assertTrue(is_leading_by_words(web, signing, other, told))
                    self.assertIs(is_leading(web, signing, other, told), True)
                self.assertEqual(leads(web, signing, far)[0], "row")
                self.assertEqual(leads(web, far, signing)[0], "row")

    def test_parts_by_themselves(self):
        web = Web(5, ((0, 1), (2, 3)))
        for signing, other in product(rising(web), repeat=2):
            told = leads(web, signing, other)
            self.assertEqual(told[0], "row")
            self.assertTrue(is_leading_by_words(web, signing, other, told))

    def test_no_signing(self):
        right = (True, True, True)
        for thing in wrong_signings():
            self.assert_kept(NoSigning, leads, triangle(), thing, right)
            self.assert_kept(NoSigning, leads, triangle(), right, thing)
            self.assert_kept(NoSigning, leads, triangle(), thing, None)
            self.assert_kept(NoSigning, is_leading, triangle(), thing, right, ("row", ()))
            self.assert_kept(NoSigning, is_leading, triangle(), right, thing, ("row", ()))
            self.assert_kept(NoSigning, is_leading, triangle(), thing, thing, None)


class IsLeading(Judging):

    def test_other_rows(self):
        web = Web(3, ((0, 1),))
        for row in ((), (2,), (2, 2), (0, 1), (2, 0, 2, 1, 0, 1)):
            self.assertIs(is_leading(web, (True,), (True,), ("row", row)), True)
        for row in ((0,), (1,), (1, 0), (0, 0), (0, 1, 0), (3,), (-1,)):
            self.assertIs(is_leading(web, (True,), (True,), ("row", row)), False)
        self.assertIs(is_leading(web, (True,), (True,), ("row", (2,) * 50000)), True)
        self.assertIs(is_leading(web, (True,), (False,), ("row", (2,) * 50000 + (0,))), True)

    def test_one_thing_otherwise(self):
        webs = [triangle(), Web(4, ((0, 3), (0, 3), (1, 2), (2, 3), (1, 3))), Web(3, ((0, 1),))]
        for web in webs:
            for signing, other in list(product(rising(web), repeat=2))[::3]:
                for thing in otherwise(leads(web, signing, other)):
                    due = is_leading_by_words(web, signing, other, thing)
                    self.assertIs(is_leading(web, signing, other, thing), due, thing)

    def test_alike_ties_never_bar(self):
        web = Web(2, ((0, 1), (0, 1)))
        for signing, other in product(rising(web), repeat=2):
            for one_count, other_count in product(range(3), repeat=2):
                thing = ("ring", (0, 1), one_count, other_count)
                self.assertIs(is_leading(web, signing, other, thing), False)

    def test_what_is_neither(self):
        signing, other = (True, True, True), (False, False, False)
        for wrong in odd_things() + [(), 0, ("row",), ("ring",), ("row", (), ()), ("ring", (0, 1, 2), 2)]:
            things = [wrong, ("row", wrong), ("row", (wrong,)), (wrong, ()), ("ring", wrong, 2, 1)]
            things += [("ring", wrong, wrong, wrong)]
            things += [("ring", (0, 1, 2), wrong, 1), ("ring", (0, 1, 2), 2, wrong), (wrong, (0, 1, 2), 2, 1)]
            for thing in things:
                self.assertIs(is_leading(triangle(), signing, other, thing), False)
        self.assertIs(is_leading(triangle(), signing, other, ("ring", (0, 1, 2), 2, 1)), True)
        self.assertIs(is_leading(triangle(), signing, other, ("ring", (0, 1, 2), 2, True)), False)
        self.assertIs(is_leading(triangle(), signing, other, ["ring", (0, 1, 2), 2, 1]), False)
        self.assertIs(is_leading(triangle(), signing, other, ("rings", (0, 1, 2), 2, 1)), False)


class RootedAndOnly(Judging):

    def test_example(self):
        self.assert_same(only(triangle(), 0), [(True, True, False), (True, True, True)])

    def test_rooted(self):
        for web in open_webs():
            if len(parts(web, tuple(range(len(web.ties))))) == 1:
                for signing in rising(web):
                    come_to = led_to(web, signing)
                    for place in range(web.many):
                        due = [other for other in come_to if sources(web, other) == (place,)]
                        self.assert_same([rooted(web, signing, place)], due)

    def test_rooted_of_greater_webs(self):
        for web in (petersen(), crowded(), ring_of(10)):
            risen = rising(web)
            for signing in risen[5::len(risen) // 4]:
                for place in range(web.many):
                    told = rooted(web, signing, place)
                    self.assertEqual(sources(web, told), (place,))
                    self.assertEqual(leads(web, signing, told)[0], "row")

    def test_only(self):
        for web in open_webs() + [Web(2, ((0, 1), (1, 1))), wheel(), Web(10, ())]:
            for place in range(web.many):
                due = [signing for signing in rising(web) if sources(web, signing) == (place,)]
                self.assert_same(only(web, place), due)
                self.assert_same(only(web, place), sorted(due))

    def test_seventh_fact(self):
        for web in open_webs() + [wheel(), all_tied(5)]:
            due = abs(numbers(web)[1])
            self.assertEqual([len(only(web, place)) for place in range(web.many)], [due] * web.many)
            if len(parts(web, tuple(range(len(web.ties))))) == 1:
                left = rising(web)
                lots = 0
                while left:
                    come_to = led_to(web, left[0])
                    left = [signing for signing in left if signing not in come_to]
                    lots += 1
                self.assertEqual(lots, due)

    def test_one_place(self):
        self.assert_same(rooted(Web(1, ()), (), 0), ())
        self.assert_same(only(Web(1, ()), 0), [()])
        self.assert_same(only(Web(2, ()), 0), [])
        only(triangle(), 1).clear()
        self.assertEqual(len(only(triangle(), 1)), 2)

    def test_errors(self):
        for thing in wrong_signings():
            self.assert_kept(NoSigning, rooted, triangle(), thing, 1)
            self.assert_kept(NoSigning, rooted, triangle(), thing, None)
        for thing in no_index(3):
            self.assert_kept(NoPlace, rooted, triangle(), (True,) * 3, thing)
            self.assert_kept(NoPlace, rooted, Web(3, ()), (), thing)
            self.assert_kept(NoPlace, only, triangle(), thing)
            self.assert_kept(NoPlace, only, Web(3, ((0, 0),)), thing)
        for web in (Web(3, ()), Web(2, ()), Web(5, triangle().ties + ((3, 4),))):
            for signing in rising(web):
                for place in range(web.many):
                    self.assert_kept(Apart, rooted, web, signing, place)
            self.assert_kept(NoSigning, rooted, web, (True,), 0)
            self.assert_kept(NoSigning, rooted, web, (True,), 9)
        self.assert_kept(NoSigning, rooted, Web(5, triangle().ties + ((3, 4),)), (True, False, True, True), 0)
