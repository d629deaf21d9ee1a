"""Points [2.2], [2.3], [2.4]: numbers, worth, parted, fewest, paper, is_paper."""

from itertools import product
from math import prod

from takenjoined.counts import fewest, is_paper, numbers, paper, parted, worth
from takenjoined.errors import NoColours, NoNumbers
from takenjoined.paintings import painted
from takenjoined.webs import Web, beside, glued, joined, taken
from tests.things import (
    Judging, all_tied, crowded, form, ladder, no_integer, odd_things, otherwise, petersen, ring_of, small_webs,
    triangle, webs_of, wheel,
)


def good_ones(web, q):
    """Count the good paintings one by one."""
    return sum(all(colours[u] != colours[v] for u, v in web.ties) for colours in product(range(q), repeat=web.many))


def by_blocks(web):
    """Count, for each number of colours that come, the parts into which good paintings part the places."""
    if any(u == v for u, v in web.ties):
        return {}
    partings = {(): 1}
    for place in range(web.many):
        longer = {}
        for blocks, count in partings.items():
            for at in range(len(blocks) + 1):
                block = blocks[at] if at < len(blocks) else ()
                if not any((other, place) in web.ties for other in block):
                    more = blocks[:at] + (block + (place,),) + blocks[at + 1:]
                    longer[more] = longer.get(more, 0) + count
        partings = longer
    many = [len(blocks) for blocks in partings]
    return {count: many.count(count) for count in range(web.many + 1)}


def powers(numbers, q):
    """Tell the sum of powers, each told by itself."""
    return sum(number * q ** place for place, number in enumerate(numbers))


class Numbers(Judging):

    def test_examples(self):
        self.assert_same(numbers(triangle()), (0, 2, -3, 1))
        self.assert_same(numbers(Web(1, ())), (0, 1))
        self.assert_same(numbers(Web(3, ())), (0, 0, 0, 1))
        self.assert_same(numbers(Web(2, ((0, 1),))), (0, -1, 1))
        self.assert_same(numbers(Web(2, ((0, 1),) * 16)), (0, -1, 1))
        self.assert_same(numbers(Web(1, ((0, 0),))), (0, 0))
        self.assert_same(numbers(Web(3, ((0, 1), (2, 2)))), (0, 0, 0, 0))

    def test_against_painted_one_by_one(self):
        for web in small_webs():
            if web.many < 5:
                told = numbers(web)
                self.assertEqual((type(told), len(told)), (tuple, web.many + 1))
                for q in range(web.many + 3):
                    self.assertEqual(powers(told, q), good_ones(web, q), (web.many, web.ties, q))

    def test_against_parted_places(self):
        webs = [petersen(), crowded(), ladder(), wheel(), all_tied(6), beside(all_tied(4), all_tied(5))]
        for web in webs + [Web(8, crowded().ties[2:3] * 3 + ((0, 3), (1, 3), (3, 4), (3, 4)))]:
            told = numbers(web)
            blocks = by_blocks(web)
            for q in list(range(13)) + [50, 10 ** 9]:
                due = sum(many * prod(range(q - count + 1, q + 1)) for count, many in blocks.items() if count <= q)
                self.assertEqual(powers(told, q), due, (web.ties, q))
                self.assertEqual(painted(web, q), due)

    def test_trees_rings_and_all_tied(self):
        trees = [Web(10, tuple((place, 9) for place in range(9))), Web(10, tuple((p, p + 1) for p in range(9)))]
        for q in range(13):
            for tree in trees:
                self.assertEqual(worth(numbers(tree), q), q * (q - 1) ** 9)
            for many in range(2, 11):
                due = (q - 1) ** many + (-1) ** many * (q - 1)
                self.assertEqual(worth(numbers(ring_of(many)), q), due)
            for many in range(1, 7):
                self.assertEqual(worth(numbers(all_tied(many)), q), prod(range(q - many + 1, q + 1)))
            both = beside(ring_of(5), all_tied(4))
            self.assertEqual(worth(numbers(both), q), painted(ring_of(5), q) * painted(all_tied(4), q))
            one = glued(ring_of(5), all_tied(4), 3, 2)
            self.assertEqual(worth(numbers(one), q) * q, worth(numbers(both), q))

    def test_first_fact(self):
        for web in small_webs() + [all_tied(5), crowded()]:
            told = numbers(web)
            for tie, (u, v) in enumerate(web.ties):
                if u != v:
                    pairs = zip(numbers(taken(web, tie)), numbers(joined(web, tie)) + (0,), strict=True)
                    self.assertEqual(told, tuple(one - other for one, other in pairs))

    def test_changes_nothing(self):
        for web in small_webs():
            ahead = form(web)
            self.assert_same(numbers(web), numbers(web))
            self.assertEqual(paper(web), paper(web))
            self.assertEqual(form(web), ahead)


class Worth(Judging):

    def test_sums(self):
        self.assert_same(worth((), 7), 0)
        self.assert_same(worth((5,), 0), 5)
        self.assert_same(worth((5, 4), 0), 5)
        self.assert_same(worth((0, 0, 3), 10), 300)
        self.assert_same(worth((1, -2, 3), -4), 1 + 8 + 48)
        for count in (1, 2, 63, 64):
            row = tuple((-1) ** k * (10 ** 20 - 1 - k) for k in range(count))
            for q in (0, 1, -1, 2, 10 ** 20 - 1, 1 - 10 ** 20):
                self.assert_same(worth(row, q), powers(row, q))

    def test_no_numbers(self):
        right = [(), (0,), (0, 1), (0, 0)]
        self.assertEqual([form(thing) for thing in odd_things() if form(thing) in [form(one) for one in right]], [])
        for thing in odd_things() + [(0,) * 65, (0,) * 64 + (True,), (1, 2, [3]), [1, 2], True, 3, (1, (2,)), ("1",)]:
            self.assert_kept(NoNumbers, worth, thing, 2)
            self.assert_kept(NoNumbers, worth, thing, True)

    def test_no_integer(self):
        for thing in no_integer():
            self.assert_kept(NoColours, worth, (1, 2), thing)
            self.assert_kept(NoColours, worth, (), thing)


class PartedAndFewest(Judging):

    def test_parted(self):
        double = Web(2, ((0, 1), (0, 1)))
        self.assert_same(parted(triangle(), double), 2)
        self.assertIsNone(parted(double, Web(2, ((0, 1),))))
        self.assertIsNone(parted(Web(4, ((0, 1), (1, 2), (2, 3))), Web(4, ((0, 1), (0, 2), (0, 3)))))
        self.assertIsNone(parted(Web(1, ((0, 0),)), Web(10, ((3, 3), (1, 2)))))
        self.assert_same(parted(Web(1, ((0, 0),)), Web(10, ())), 1)
        self.assert_same(parted(all_tied(6), Web(1, ((0, 0),))), 6)
        self.assert_same(parted(all_tied(6), all_tied(5)), 5)
        self.assert_same(parted(Web(1, ()), Web(2, ())), 2)

    def test_parted_of_all(self):
        webs = [web for many in (1, 2, 3) for web in webs_of(many, 2)]
        counts = [[good_ones(web, q) for q in range(6)] for web in webs]
        for one, left in zip(webs, counts):
            for other, right in zip(webs, counts):
                due = [q for q in range(6) if left[q] != right[q]]
                self.assert_same(parted(one, other), due[0] if due else None)

    def test_fewest(self):
        self.assertIsNone(fewest(Web(1, ((0, 0),))))
        self.assertIsNone(fewest(Web(3, ((0, 1), (2, 2)))))
        self.assert_same(fewest(Web(10, ())), 1)
        self.assert_same(fewest(petersen()), 3)
        for many in range(3, 11):
            self.assert_same(fewest(ring_of(many)), 2 + many % 2)
        for many in range(1, 7):
            self.assert_same(fewest(all_tied(many)), many)
        for web in small_webs():
            if web.many < 5:
                due = [q for q in range(5) if good_ones(web, q)]
                self.assert_same(fewest(web), due[0] if due else None)


def holds_word_by_word(triples, at):
    """Tell of integers in right places whether one triple is as it should be, the later ones being looked through."""
    web, tie, told = triples[at]
    if tie is None:
        if any(u == v for u, v in web.ties):
            return told == (0,) * (web.many + 1)
        return not web.ties and told == (0,) * web.many + (1,)
    without = [row for other, _, row in triples[at + 1:] if other == taken(web, tie)]
    one = [row for other, _, row in triples[at + 1:] if other == joined(web, tie)]
    due = [a - b for a, b in zip(without[0], one[0] + (0,), strict=True)] if without and one else None
    return due is not None and list(told) == due


def is_right_triple(thing):
    """Tell whether a triple's parts are of the right kinds."""
    if type(thing) is not tuple or len(thing) != 3 or type(thing[0]) is not Web or type(thing[2]) is not tuple:
        return False
    web, tie, told = thing
    right = tie is None or type(tie) is int and tie in range(len(web.ties)) and web.ties[tie][0] != web.ties[tie][1]
    return right and len(told) == web.many + 1 and all(type(number) is int for number in told)


def is_paper_word_by_word(web, thing):
    if type(thing) is not tuple or thing == () or not all(is_right_triple(part) for part in thing):
        return False
    return thing[0][0] == web and all(holds_word_by_word(thing, at) for at in range(len(thing)))


class Paper(Judging):

    def test_papers_are_let(self):
        for web in small_webs() + [crowded(), all_tied(6), Web(10, crowded().ties[:15] + ((7, 7),))]:
            told = paper(web)
            self.assertIs(is_paper(web, told), True)
            self.assert_same(told[0][2], numbers(web))
            if len(told) < 60:
                self.assertTrue(is_paper_word_by_word(web, told))

    def test_other_papers(self):
        two = Web(2, ((0, 1),))
        ends = ((Web(2, ()), None, (0, 0, 1)), (Web(1, ()), None, (0, 1)))
        first = (two, 0, (0, -1, 1))
        for rest in (ends, ends[::-1], ends + ends, (first,) + ends, ends[:1] + ends[::-1]):
            self.assertIs(is_paper(two, (first,) + rest), True)
        for rest in ((), ends[:1], ends[1:], (ends[0], first, ends[1]), ends + (first,)):
            self.assertIs(is_paper(two, (first,) + rest), False)
        self.assertIs(is_paper(two, ends[:1] + (first,) + ends), False)
        self.assertIs(is_paper(Web(2, ()), ends), True)
        self.assertIs(is_paper(Web(1, ()), ends), False)

    def test_selfties_by_ties_or_at_once(self):
        web = Web(2, ((0, 0), (0, 1)))
        ends = ((Web(2, ((0, 0),)), None, (0, 0, 0)), (Web(1, ((0, 0),)), None, (0, 0)))
        self.assertIs(is_paper(web, ((web, None, (0, 0, 0)),)), True)
        self.assertIs(is_paper(web, ((web, 1, (0, 0, 0)),) + ends), True)
        self.assertIs(is_paper(web, ((web, 0, (0, 0, 0)),) + ends), False)
        self.assertIs(is_paper(web, ((web, None, (0, 0, 1)),)), False)
        self.assertIs(is_paper(web, ((web, 1, (0, 0, 1)),) + ends), False)
        edge = Web(2, ((0, 1),))
        for told in ((0, -1, 1), (0, 0, 0), (0, 0, 1)):
            self.assertIs(is_paper(edge, ((edge, None, told),)), False)

    def test_one_thing_otherwise(self):
        webs = [triangle(), Web(1, ()), Web(2, ((0, 1), (0, 1))), Web(2, ((0, 0), (0, 1))), Web(4, ((0, 3), (1, 3)))]
        for web in webs:
            lets = 0
            things = otherwise(paper(web))
            for thing in things:
                due = is_paper_word_by_word(web, thing)
                self.assertIs(is_paper(web, thing), due, (web.ties, thing))
                lets += due
            self.assertLess(lets * 4, len(things))

    def test_what_is_no_paper(self):
        for web in (triangle(), Web(1, ()), wheel()):
            told = paper(web)
            for thing in odd_things() + [(), (((),),), ((web,),), ((web, None),), 0, -1, 10 ** 20 - 1]:
                self.assertIs(is_paper(web, thing), False)
                self.assertIs(is_paper(web, (thing,)), False)
                self.assertIs(is_paper(web, ((web, thing, told[0][2]),)), thing is None and web.ties == ())
                self.assertIs(is_paper(web, ((web, None, thing),)), False)
                self.assertIs(is_paper(web, told + (thing,)), False)
