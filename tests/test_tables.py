"""Points [9.1] to [9.4]: frames, busy ties, the table, stretches, and what the table tells at two integers."""

from itertools import permutations
from random import Random

from takenjoined.counts import numbers, worth
from takenjoined.errors import NoFrame, NoNumber, NoTies, NoWay
from takenjoined.rings import bridges
from takenjoined.tables import busy, frame_of, frames, table, table_at, table_by
from takenjoined.webs import Web, joined, taken
from tests.things import (
    Judging, all_tied, crowded, form, ladder, lots, no_integer, odd_things, otherwise, petersen, ring_of, triangle,
    webs_of, wheel,
)


def few_webs():
    """List webs of few ties, in pieces, too, with alike ties, selfties and bridges."""
    webs = [web for many in (1, 2, 3) for web in webs_of(many, 3)] + webs_of(4, 3)[::5] + [all_tied(3), ring_of(4)]
    webs += [Web(2, ((0, 1), (0, 1), (1, 1), (0, 1))), Web(5, ((0, 1), (3, 4), (0, 1), (4, 4))), Web(1, ((0, 0),) * 4)]
    return webs + [Web(3, ((0, 1), (0, 2), (1, 2), (0, 2))), Web(6, ((0, 1), (2, 3), (4, 5), (0, 1)))]


def greater_webs():
    """List webs of many places or ties."""
    webs = [wheel(), ladder(), all_tied(4), all_tied(5), petersen(), crowded(), Web(10, ()), Web(1, ((0, 0),) * 16)]
    webs += [Web(2, ((0, 1),) * 15 + ((1, 1),)), Web(8, tuple((u, 4 + v) for u in range(4) for v in range(4)))]
    return webs + [Web(10, ring_of(10).ties + ((0, 5), (0, 5), (2, 2), (3, 8), (1, 6), (7, 7)))]


def pieces(web, lot):
    """Tell how many lots of places hang together by a lot of ties."""
    parts = [{place} for place in range(web.many)]
    for tie in lot:
        met = [part for part in parts if part & set(web.ties[tie])]
        parts = [part for part in parts if part not in met] + [set().union(*met)]
    return len(parts)


def is_ringless(web, lot):
    return pieces(web, lot) == web.many - len(lot)


def sound_frames(web):
    every = [lot for lot in lots(len(web.ties)) if is_ringless(web, lot)]
    return sorted(lot for lot in every if not any(set(lot) < set(other) for other in every))


def sound_busy(web, way, frame, every):
    """Tell by the document's words, all frames being given."""
    inwards, outwards = [], []
    for tie in range(len(web.ties)):
        ahead = way[:way.index(tie)]
        if tie in frame:
            others = set(frame) - {tie}
            if not any(tuple(sorted(others | {other})) in every for other in ahead):
                inwards.append(tie)
        else:
            # Of the ring it makes are those ties of the frame in whose place it can stand.
            ring = [own for own in frame if tuple(sorted(set(frame) - {own} | {tie})) in every]
            if all(own not in ahead for own in ring):
                outwards.append(tie)
    return tuple(inwards), tuple(outwards)


def power(base, count):
    return base ** count


def at(told, x, y):
    return sum(many * power(x, i) * power(y, j) for (i, j), many in told.items())


def sound_table(web):
    """Tell the table by taking and joining."""
    if not web.ties:
        return {(0, 0): 1}
    u, v = web.ties[-1]
    last = len(web.ties) - 1
    less, one = sound_table(taken(web, last)), sound_table(joined(web, last))
    if u == v:
        return {(i, j + 1): many for (i, j), many in less.items()}
    if last in bridges(web):
        return {(i + 1, j): many for (i, j), many in one.items()}
    return {pair: less.get(pair, 0) + one.get(pair, 0) for pair in set(less) | set(one)}


def lacks_and_spares(web):
    """Tell how many lots lack and spare so many ties."""
    parts = pieces(web, range(len(web.ties)))
    found = {}
    for lot in lots(len(web.ties)):
        here = pieces(web, lot)
        pair = (here - parts, len(lot) - web.many + here)
        found[pair] = found.get(pair, 0) + 1
    return found


class Frames(Judging):

    def test_by_all_lots(self):
        for web in few_webs() + [wheel(), all_tied(4)]:
            self.assert_same(frames(web), sound_frames(web))

    def test_by_hand(self):
        self.assert_same(frames(triangle()), [(0, 1), (0, 2), (1, 2)])
        self.assert_same(frames(Web(2, ((0, 1), (0, 0), (0, 1)))), [(0,), (2,)])
        self.assert_same(frames(Web(10, ())), [()])
        self.assert_same(frames(Web(1, ((0, 0),) * 16)), [()])
        self.assert_same(frames(Web(4, ((2, 3), (0, 1)))), [(0, 1)])

    def test_greater_webs(self):
        self.assert_same([len(frames(web)) for web in (all_tied(5), petersen(), ladder())], [125, 2000, 18])
        for web in greater_webs():
            told = frames(web)
            self.assertEqual(told, sorted(set(told)))
            size = web.many - pieces(web, range(len(web.ties)))
            for frame in told[::1 + len(told) // 50]:
                self.assertEqual(len(frame), size)
                self.assertTrue(is_ringless(web, frame))

    def test_what_is_told_is_new(self):
        told = frames(triangle())
        told.append(None)
        self.assertEqual(len(frames(triangle())), 3)


class Busy(Judging):

    def test_each_way(self):
        for web in few_webs():
            every = sound_frames(web)
            for way in permutations(range(len(web.ties))):
                for frame in every:
                    self.assert_same(busy(web, way, frame), sound_busy(web, way, frame, every))

    def test_greater_webs(self):
        rng = Random(1)
        for web in (wheel(), all_tied(4), ladder(), all_tied(5)):
            every = frames(web)
            held = set(every)
            for _ in range(4):
                way = tuple(rng.sample(range(len(web.ties)), len(web.ties)))
                for frame in every[::1 + len(every) // 20]:
                    self.assert_same(busy(web, way, frame), sound_busy(web, way, frame, held))

    def test_by_hand(self):
        self.assert_same(busy(triangle(), (0, 1, 2), (0, 1)), ((0, 1), ()))
        self.assert_same(busy(triangle(), (0, 1, 2), (0, 2)), ((0,), ()))
        self.assert_same(busy(triangle(), (0, 1, 2), (1, 2)), ((), (0,)))
        self.assert_same(busy(triangle(), (2, 1, 0), (1, 2)), ((1, 2), ()))
        self.assert_same(busy(Web(2, ((1, 1), (0, 1))), (1, 0), (1,)), ((1,), (0,)))
        self.assert_same(busy(Web(1, ()), (), ()), ((), ()))

    def test_order_of_errors(self):
        ways = [form(way) for way in permutations(range(3))]
        for thing in odd_things() + otherwise((0, 1, 2)) + [(), (0, 1), (0, 1, 1), (1, 2, 3), [0, 1, 2]]:
            if form(thing) not in ways:
                for call in (busy, frame_of):
                    self.assert_kept(NoWay, call, triangle(), thing, (0, 1))
                    self.assert_kept(NoWay, call, triangle(), thing, None)
                self.assert_kept(NoWay, table_by, triangle(), thing)
        right = [form(frame) for frame in frames(triangle())]
        wrong = odd_things() + otherwise((0, 1)) + [(), (0,), (0, 1, 2), (1, 0), (0, 3), (0, 0), [0, 1], (0, True)]
        for thing in wrong:
            if form(thing) not in right:
                self.assert_kept(NoFrame, busy, triangle(), (2, 0, 1), thing)
        for thing in ((0, 1), (0, 2, 3), (1, 2), (3,), ()):
            self.assert_kept(NoFrame, busy, Web(3, ((0, 1), (0, 1), (1, 2), (2, 2))), (0, 1, 2, 3), thing[:1])
        self.assert_kept(NoFrame, busy, Web(3, ((0, 1), (0, 1), (1, 2), (2, 2))), (0, 1, 2, 3), (0, 1))
        self.assert_kept(NoFrame, busy, Web(3, ((0, 1), (0, 1), (1, 2), (2, 2))), (0, 1, 2, 3), (0, 3))
        self.assert_kept(NoFrame, busy, Web(1, ((0, 0),)), (0,), (0,))


class Table(Judging):

    def test_each_way_tells_the_same(self):
        for web in few_webs():
            every = sound_frames(web)
            due = sound_table(web)
            self.assert_pairs(table(web), due)
            for way in permutations(range(len(web.ties))):
                told = table_by(web, way)
                self.assert_pairs(told, due)
                counted = {}
                for frame in every:
                    pair = tuple(map(len, sound_busy(web, way, frame, every)))
                    counted[pair] = counted.get(pair, 0) + 1
                self.assert_pairs(told, counted)

    def assert_pairs(self, told, due):
        self.assertEqual(told, due)
        self.assertIs(type(told), dict)
        for pair, many in told.items():
            self.assert_same((type(pair), len(pair)), (tuple, 2))
            self.assertTrue(all(type(number) is int for number in pair + (many,)))
            self.assertGreater(many, 0)

    def test_by_all_lots(self):
        for web in few_webs() + [wheel(), all_tied(4), ladder(), all_tied(5)]:
            pairs = lacks_and_spares(web)
            for x in range(-3, 5):
                for y in range(-3, 5):
                    due = sum(many * power(x - 1, lack) * power(y - 1, spare) for (lack, spare), many in pairs.items())
                    self.assert_same(at(table(web), x, y), due)

    def test_by_taking_and_joining(self):
        for web in (wheel(), all_tied(4), ladder(), ring_of(10), Web(2, ((0, 1),) * 15 + ((1, 1),))):
            self.assert_pairs(table(web), sound_table(web))

    def test_ten_places_and_sixteen_ties(self):
        rng = Random(2)
        for web in (crowded(), greater_webs()[-1]):
            told = table(web)
            for _ in range(3):
                self.assert_pairs(table_by(web, tuple(rng.sample(range(16), 16))), told)
            pairs = lacks_and_spares(web)
            for x, y in ((3, -2), (-1, -1), (0, 4), (7, 0), (1, 1)):
                due = sum(many * power(x - 1, lack) * power(y - 1, spare) for (lack, spare), many in pairs.items())
                self.assert_same(at(told, x, y), due)

    def test_by_hand(self):
        self.assert_pairs(table(triangle()), {(2, 0): 1, (1, 0): 1, (0, 1): 1})
        self.assert_pairs(table(Web(2, ((0, 1), (0, 1)))), {(1, 0): 1, (0, 1): 1})
        self.assert_pairs(table(Web(10, ())), {(0, 0): 1})
        self.assert_pairs(table(Web(1, ((0, 0),) * 16)), {(0, 16): 1})
        self.assert_pairs(table(Web(3, ((0, 1), (1, 2), (1, 1)))), {(2, 1): 1})

    def test_what_is_told_is_new(self):
        for call in (table, lambda web: table_by(web, (1, 0, 2))):
            told = call(triangle())
            told[0, 0] = 5
            told.pop((2, 0))
            self.assert_pairs(call(triangle()), {(2, 0): 1, (1, 0): 1, (0, 1): 1})


class Stretches(Judging):

    def test_each_lot_in_one_stretch(self):
        for web in few_webs():
            every = sound_frames(web)
            for way in list(permutations(range(len(web.ties))))[::1 + len(web.ties) // 4 * 2]:
                self.assert_lots(web, way, every, lots(len(web.ties)))

    def assert_lots(self, web, way, every, some):
        both = {frame: sound_busy(web, way, frame, every) for frame in every}
        for lot in some:
            found = [frame for frame, (inwards, outwards) in both.items()
                     if set(frame) - set(inwards) <= set(lot) <= set(frame) | set(outwards)]
            self.assertEqual(len(found), 1)
            self.assert_same(frame_of(web, way, lot), found[0])

    def test_greater_webs(self):
        rng = Random(3)
        for web in (wheel(), all_tied(4), ladder()):
            way = tuple(rng.sample(range(len(web.ties)), len(web.ties)))
            self.assert_lots(web, way, frames(web), lots(len(web.ties))[::17])
        for lot in ((), tuple(range(16)), (0, 3, 4, 7, 8, 9, 15)):
            self.assertIn(frame_of(crowded(), tuple(range(15, -1, -1)), lot), frames(crowded()))

    def test_by_hand(self):
        self.assert_same(frame_of(triangle(), (0, 1, 2), ()), (0, 1))
        self.assert_same(frame_of(triangle(), (0, 1, 2), (2,)), (0, 2))
        self.assert_same(frame_of(triangle(), (0, 1, 2), (0, 1, 2)), (1, 2))
        self.assert_same(frame_of(triangle(), (2, 1, 0), (0, 1, 2)), (0, 1))
        self.assert_same(frame_of(Web(1, ((0, 0),)), (0,), (0,)), ())

    def test_no_ties(self):
        right = [form(lot) for lot in lots(3)]
        for thing in odd_things() + otherwise((0, 2)) + [(3,), (1, 0), (0, 0), [0], (0, True), (-1,), 0]:
            if form(thing) not in right:
                self.assert_kept(NoTies, frame_of, triangle(), (1, 2, 0), thing)


class TableAt(Judging):

    def test_small_webs(self):
        for web in few_webs():
            told = sound_table(web)
            for x in (-99, -7, -2, -1, 0, 1, 2, 3, 99):
                for y in (-99, -3, -1, 0, 1, 2, 98, 99):
                    self.assert_same(table_at(web, x, y), at(told, x, y))

    def test_facts(self):
        for web in few_webs() + [wheel(), ladder(), all_tied(4)]:
            every = lots(len(web.ties))
            whole = pieces(web, range(len(web.ties)))
            self.assert_same(table_at(web, 1, 1), len(sound_frames(web)) if len(every) < 600 else len(frames(web)))
            self.assert_same(table_at(web, 2, 2), len(every))
            self.assert_same(table_at(web, 2, 1), sum(is_ringless(web, lot) for lot in every))
            self.assert_same(table_at(web, 1, 2), sum(pieces(web, lot) == whole for lot in every))

    def test_good_paintings(self):
        for web in few_webs()[::3] + greater_webs():
            parts = pieces(web, range(len(web.ties)))
            told = numbers(web)
            for q in (-98, -5, -2, -1, 0, 1, 2, 3, 4, 6, 57, 99, 100):
                due = (-1) ** (web.many - parts) * q ** parts * table_at(web, 1 - q, 0)
                self.assert_same(worth(told, q), due)

    def test_greater_webs(self):
        for web in greater_webs():
            self.assert_same(table_at(web, 2, 2), 2 ** len(web.ties))
            self.assert_same(table_at(web, 1, 1), len(frames(web)))
            self.assert_same(table_at(web, -99, 99), at(table(web), -99, 99))

    def test_nought_to_the_power_of_nought(self):
        self.assert_same(table_at(Web(3, ()), 0, 0), 1)
        self.assert_same(table_at(Web(2, ((0, 1),)), 5, 0), 5)
        self.assert_same(table_at(Web(1, ((0, 0),)), 0, 5), 5)
        self.assert_same(table_at(triangle(), 0, 0), 0)

    def test_no_number(self):
        for thing in no_integer() + [100, -100, 101, 10 ** 20 - 1, -10 ** 19]:
            self.assert_kept(NoNumber, table_at, triangle(), thing, 1)
            self.assert_kept(NoNumber, table_at, triangle(), 1, thing)
            self.assert_kept(NoNumber, table_at, triangle(), thing, thing)
