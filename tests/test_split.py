"""Point [4.3]: split, merged."""

from itertools import product

from takenjoined.errors import NoColours, NoPair, NoTie, NoWord
from takenjoined.signings import fitting, is_fitting, merged, round_of, split
from takenjoined.webs import Web, joined, taken
from tests.things import (
    Judging, all_tied, form, no_colours, no_index, odd_things, otherwise, petersen, triangle, way_webs_of, webs_of,
    wheel,
)


def split_webs():
    """List webs with all their fitting pairs, alike ties that become selfties among them."""
    webs = [web for many in (2, 3) for web in webs_of(many, 3)] + way_webs_of(3, 2) + webs_of(4, 2)
    webs += [Web(3, ((0, 1), (0, 2), (0, 1), (1, 2))), Web(4, ((0, 3), (1, 3), (2, 3), (0, 1))), all_tied(4)]
    more = [(triangle(), 3), (wheel(), 1), (Web(3, ((0, 2), (1, 2))), 4)]
    return [(web, q) for web in webs for q in (0, 1, 2)] + more


def open_ties(web):
    return [tie for tie, (u, v) in enumerate(web.ties) if u != v]


def due_word(web, tie, pair):
    """Tell by the words of the point which web a pair is led to."""
    signing, painting = pair
    u, v = web.ties[tie]
    both = [signing[:tie] + (flag,) + signing[tie + 1:] for flag in (False, True)]
    either = any(round_of(web, other) is not None for other in both)
    return "joined" if painting[u] == painting[v] and not either and signing[tie] is False else "taken"


def heads(web, signing, names):
    """List where each tie goes from and to, by the names of its places."""
    ways = [(u, v) if flag else (v, u) for (u, v), flag in zip(web.ties, signing)]
    return [(names[one], names[other]) for one, other in ways]


class Split(Judging):

    def test_by_hand(self):
        edge = Web(2, ((0, 1),))
        self.assert_same(split(edge, 0, 1, ((False,), (0, 0))), ("joined", ((), (0,))))
        self.assert_same(split(edge, 0, 1, ((True,), (0, 0))), ("taken", ((), (0, 0))))
        self.assert_same(split(edge, 0, 2, ((False,), (1, 0))), ("taken", ((), (1, 0))))
        two = Web(2, ((0, 1), (0, 1)))
        self.assert_same(split(two, 1, 1, ((False, False), (0, 0))), ("taken", ((False,), (0, 0))))
        # Place 2 becomes place 0: the tie from 1 to 2 goes to 0 now.
        bent = Web(3, ((0, 2), (1, 2)))
        self.assert_same(split(bent, 0, 2, ((False, True), (1, 0, 1))), ("joined", ((False,), (1, 0))))
        self.assert_same(merged(bent, 0, 2, "joined", ((False,), (1, 0))), ((False, True), (1, 0, 1)))
        self.assert_same(merged(edge, 0, 2, "taken", ((), (1, 0))), ((False,), (1, 0)))
        self.assert_same(merged(edge, 0, 2, "taken", ((), (0, 1))), ((True,), (0, 1)))
        self.assert_same(merged(edge, 0, 2, "taken", ((), (1, 1))), ((True,), (1, 1)))
        self.assert_same(merged(edge, 0, 2, "joined", ((), (1,))), ((False,), (1, 1)))

    def test_there_and_back(self):
        for web, q in split_webs():
            for tie in open_ties(web):
                for pair in fitting(web, q):
                    word, lesser = split(web, tie, q, pair)
                    self.assertEqual(word, due_word(web, tie, pair))
                    self.assertTrue(is_fitting(taken(web, tie) if word == "taken" else joined(web, tie), q, lesser))
                    self.assert_same(merged(web, tie, q, word, lesser), pair)

    def test_back_and_there(self):
        for web, q in split_webs():
            for tie in open_ties(web):
                for word, lesser in (("taken", taken(web, tie)), ("joined", joined(web, tie))):
                    for pair in fitting(lesser, q):
                        own = merged(web, tie, q, word, pair)
                        self.assertTrue(is_fitting(web, q, own))
                        self.assert_same(split(web, tie, q, own), (word, pair))

    def test_ties_go_as_they_did(self):
        for web, q in split_webs():
            for tie in open_ties(web):
                u, v = web.ties[tie]
                names = [p if p < v else p - 1 for p in range(web.many)]
                names[v] = u
                for signing, painting in fitting(web, q):
                    word, (left, colours) = split(web, tie, q, (signing, painting))
                    if word == "taken":
                        self.assert_same((left, colours), (signing[:tie] + signing[tie + 1:], painting))
                        continue
                    due = heads(web, signing, names)
                    one = joined(web, tie)
                    self.assertEqual(heads(one, left, range(one.many)), due[:tie] + due[tie + 1:])
                    self.assertEqual([colours[names[place]] for place in range(web.many)], list(painting))

    def test_greater_webs(self):
        web = petersen()
        pairs = fitting(web, 1)[::501]
        for tie in range(15):
            for pair in pairs:
                word, lesser = split(web, tie, 1, pair)
                self.assertEqual(word, due_word(web, tie, pair))
                self.assert_same(merged(web, tie, 1, word, lesser), pair)


class Wrong(Judging):

    def test_no_tie(self):
        web = Web(3, ((0, 1), (2, 2), (1, 2)))
        for thing in no_index(3) + [1]:
            self.assert_kept(NoTie, split, web, thing, 2, None)
            self.assert_kept(NoTie, split, web, thing, None, None)
            self.assert_kept(NoTie, merged, web, thing, None, None, None)
            self.assert_kept(NoTie, merged, web, thing, 1, "taken", ((), ()))

    def test_no_colours(self):
        for thing in no_colours():
            self.assert_kept(NoColours, split, triangle(), 1, thing, None)
            self.assert_kept(NoColours, merged, triangle(), 1, thing, "other", None)
            self.assert_kept(NoColours, merged, triangle(), 1, thing, "taken", None)

    def test_no_word(self):
        words = ["Taken", "taken ", "take", "", "takenjoined", b"taken", ["taken"], ("taken",), {"taken": 0}, 0, 1]
        for thing in odd_things() + words:
            self.assert_kept(NoWord, merged, triangle(), 1, 2, thing, None)
            self.assert_kept(NoWord, merged, triangle(), 1, 2, thing, ((True, True), (0, 0, 0)))

    def test_no_pair(self):
        for thing in odd_things() + [(), 0, -1]:
            self.assert_kept(NoPair, split, triangle(), 0, 2, thing)
            for word in ("taken", "joined"):
                self.assert_kept(NoPair, merged, triangle(), 0, 2, word, thing)
                self.assert_kept(NoPair, merged, triangle(), 0, 2, word, ((True, True), thing))
                self.assert_kept(NoPair, merged, triangle(), 0, 2, word, (thing, (0, 0, 0)))
        # What fits for the web does not fit for the taken one, and the other way round.
        self.assert_kept(NoPair, split, triangle(), 0, 2, ((True, True), (0, 0, 0)))
        self.assert_kept(NoPair, merged, triangle(), 0, 2, "taken", ((True, True, True), (0, 0, 0)))
        self.assert_kept(NoPair, merged, triangle(), 0, 2, "taken", ((True, True), (0, 0)))
        self.assert_kept(NoPair, merged, triangle(), 0, 2, "joined", ((True, True), (0, 0, 0)))
        self.assert_kept(NoPair, merged, triangle(), 0, 2, "joined", ((True, False), (0, 0)))
        self.assert_kept(NoPair, merged, triangle(), 0, 0, "joined", ((True, True), (0, 0)))
        self.assert_kept(NoPair, split, triangle(), 0, 2, ((True, False, True), (0, 0, 0)))
        self.assert_kept(NoPair, split, triangle(), 0, 2, ((True, True, True), (1, 0, 1)))
        self.assert_kept(NoPair, split, Web(2, ((0, 1), (1, 1))), 0, 2, ((True, True), (0, 0)))

    def test_pairs_with_one_thing_otherwise(self):
        web = triangle()
        right = [form(pair) for pair in fitting(web, 2)]
        for thing in otherwise(((True, True, False), (0, 1, 1))):
            if form(thing) not in right:
                self.assert_kept(NoPair, split, web, 2, 2, thing)
        taken_one = ("taken", taken(web, 2), ((True, True), (0, 1, 1)))
        joined_one = ("joined", joined(web, 2), ((True, True), (0, 1)))
        for word, lesser, pair in (taken_one, joined_one):
            right = [form(pair) for pair in fitting(lesser, 2)]
            for thing in otherwise(pair):
                if form(thing) not in right:
                    self.assert_kept(NoPair, merged, web, 2, 2, word, thing)

    def test_order_of_errors(self):
        for tie, q, word, pair in product((0, 3), (2, -1), ("joined", "other"), (((True, True), (0, 0)), ())):
            wrong = ((tie, NoTie), (q < 0, NoColours), (word == "other", NoWord), (pair == (), NoPair))
            errors = [error for is_wrong, error in wrong if is_wrong]
            if errors:
                self.assert_kept(errors[0], merged, triangle(), tie, q, word, pair)
            else:
                self.assert_same(merged(triangle(), tie, q, word, pair), ((False, True, True), (0, 0, 0)))
