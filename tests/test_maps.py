"""Points [10.1] to [10.4]: maps, their faces, opposites, closed lines, and paintings of flat ones."""

from takenjoined.errors import Apart, BadMap, Full, NotFlat, NoTies, Selftied
from takenjoined.maps import Map, faces, five, is_flat, light_order, lines, opposite
from takenjoined.paintings import is_good
from takenjoined.tables import frames, table, table_at
from takenjoined.thin import first_fit, is_thin
from takenjoined.webs import Web
from tests.charts import (
    all_turns, flat_maps, grown_map, maps_beside, octahedron, pieces, pyramid, small_maps, sound_faces, sound_flat,
    steep_map, wheel_map,
)
from tests.things import Judging, all_tied, form, odd_things, otherwise, petersen, triangle


def turned_round(turns, by):
    return tuple(turn[by % max(len(turn), 1):] + turn[:by % max(len(turn), 1)] for turn in turns)


def mirrored(turns):
    return tuple(turn[::-1] for turn in turns)


class Maps(Judging):

    def assert_map(self, chart, web, turns):
        self.assertIs(type(chart), Map)
        self.assert_same(chart.web, web)
        self.assert_same(chart.turns, turns)

    def test_right_turns(self):
        for web in (triangle(), Web(1, ()), Web(3, ()), Web(2, ((0, 1), (0, 0), (0, 1))), Web(1, ((0, 0), (0, 0)))):
            for turns in all_turns(web):
                for told in (turns, turned_round(turns, 1), turned_round(turns, 2), mirrored(turns)):
                    self.assert_map(Map(web, told), web, told)
        for chart in flat_maps():
            self.assert_map(Map(chart.web, mirrored(chart.turns)), chart.web, mirrored(chart.turns))

    def test_by_hand(self):
        web = Web(3, ((0, 1), (1, 1), (1, 2)))
        self.assert_map(Map(web, ((0,), (4, 2, 1, 3), (5,))), web, ((0,), (4, 2, 1, 3), (5,)))
        self.assert_map(Map(Web(4, ((1, 3),)), ((), (0,), (), (1,))), Web(4, ((1, 3),)), ((), (0,), (), (1,)))

    def test_equality(self):
        web = Web(1, ((0, 0), (0, 0)))
        charts = [Map(web, ((0, 1, 2, 3),)), Map(web, ((1, 2, 3, 0),)), Map(web, ((3, 2, 1, 0),)),
                  Map(Web(1, ()), ((),))]
        for at, one in enumerate(charts):
            for other_at, other in enumerate(charts):
                self.assertIs(one == other, at == other_at)
                self.assertIs(one != other, at != other_at)
        self.assertTrue(Map(Web(2, ((0, 1),)), ((0,), (1,))) == Map(Web(2, ((0, 1),)), ((0,), (1,))))
        self.assertFalse(Map(Web(2, ()), ((), ())) == Map(Web(3, ()), ((), (), ())))
        for thing in odd_things() + [web, (web, ((0, 1, 2, 3),)), ((0, 1, 2, 3),)]:
            self.assertIs(charts[0] == thing, False)
            self.assertIs(thing == charts[0], False)

    def test_wrong_turns(self):
        web = Web(3, ((0, 1), (1, 1), (1, 2)))
        right = ((0,), (1, 2, 3, 4), (5,))
        wrong = {
            0: [(), (1,), (0, 0), (0, 6), (5,), (False,), [0], (-1,), None, 0, "0", (0, 1), ((0,),), (6,), (0, None)],
            1: [(1, 2, 3), (1, 2, 3, 3), (1, 2, 3, 4, 4), (1, 2, 3, 5), (0, 1, 2, 3, 4), (True, 2, 3, 4), [1, 2, 3, 4],
                (1, 2, 3, 6), (1, 2, 3, "4"), {1: 2}, (1, 2, 3, 4, 10 ** 19), (), range(1, 5), (1, (2, 3), 4)],
            2: [(), (4,), (5, 5), (True,), [5], (5, 6), (10 ** 20 - 1,), (-5,), b"\x05"],
        }
        for place, turns in wrong.items():
            for turn in turns + odd_things():
                told = right[:place] + (turn,) + right[place + 1:]
                self.assertEqual(self.assert_kept(BadMap, Map, web, told).place, place, turn)
                for behind in range(place + 1, 3):
                    more = told[:behind] + (None,) + told[behind + 1:]
                    self.assertEqual(self.assert_kept(BadMap, Map, web, more).place, place)

    def test_other_many_turns(self):
        web = Web(2, ((0, 1),))
        for thing in odd_things() + [(), ((0,),), ((0,), (1,), ()), [(0,), (1,)], 0, ((0, 1),), ((0,), (1,)) * 5000]:
            due = 0 if type(thing) is tuple and len(thing) == 2 else -1
            self.assertEqual(self.assert_kept(BadMap, Map, web, thing).place, due)
        for thing in otherwise(((0,), (1,))):
            if type(thing) is not tuple or len(thing) != 2:
                self.assertEqual(self.assert_kept(BadMap, Map, web, thing).place, -1)
            elif form(thing) != form(((0,), (1,))):
                place = self.assert_kept(BadMap, Map, web, thing).place
                self.assertEqual(place, 0 if form(thing[0]) != form((0,)) else 1)

    def test_faces(self):
        for chart in small_maps() + flat_maps():
            told = faces(chart)
            self.assert_same(told, sound_faces(chart.web, chart.turns))
            ends = sorted(end for face in told for end in face)
            self.assertEqual(ends, list(range(2 * len(chart.web.ties))))

    def test_faces_by_hand(self):
        self.assert_same(faces(Map(Web(3, ()), ((), (), ()))), [(), (), ()])
        self.assert_same(faces(Map(triangle(), ((0, 2), (1, 4), (3, 5)))), [(0, 4, 3), (1, 2, 5)])
        self.assert_same(faces(Map(Web(2, ((0, 1),)), ((0,), (1,)))), [(0, 1)])
        self.assert_same(faces(Map(Web(1, ((0, 0),)), ((0, 1),))), [(0,), (1,)])
        self.assert_same(faces(Map(Web(1, ((0, 0), (0, 0))), ((0, 2, 1, 3),))), [(0, 3, 1, 2)])
        self.assert_same(faces(Map(Web(3, ((0, 2),)), ((0,), (), (1,)))), [(), (0, 1)])

    def test_flat_or_not(self):
        both = set()
        for chart in small_maps():
            self.assertIs(is_flat(chart), sound_flat(chart))
            both.add(is_flat(chart))
        self.assertEqual(both, {True, False})
        for chart in flat_maps():
            self.assertIs(is_flat(chart), True)
        self.assertFalse(any(is_flat(Map(all_tied(5), turns)) for turns in all_turns(all_tied(5))[::97]))

    def test_flat_in_pieces(self):
        flat = [chart for chart in flat_maps() if chart.web.many < 4][::3] + [Map(Web(1, ()), ((),))]
        crooked = [Map(Web(1, ((0, 0), (0, 0))), ((0, 2, 1, 3),))]
        for one in flat + crooked:
            for other in flat + crooked:
                self.assertIs(is_flat(maps_beside(one, other)), one not in crooked and other not in crooked)
        self.assertIs(is_flat(Map(Web(10, ()), ((),) * 10)), True)


class Opposites(Judging):

    def test_by_the_words(self):
        for chart in flat_maps():
            rounds = sound_faces(chart.web, chart.turns)
            if len(rounds) > 10 or not chart.web.ties:
                continue
            told = opposite(chart)
            self.assertIs(type(told), Map)
            face_of = {end: at for at, face in enumerate(rounds) for end in face}
            names = {}
            for tie, pair in enumerate(told.web.ties):
                one, other = face_of[2 * tie], face_of[2 * tie + 1]
                self.assert_same(pair, (min(one, other), max(one, other)))
                names[2 * tie], names[2 * tie + 1] = (2 * tie, 2 * tie + 1)[:: -1 if one > other else 1]
            self.assert_same(told.web.many, len(rounds))
            self.assert_same(told.turns, tuple(tuple(names[end] for end in face) for face in rounds))

    def test_fact_of_opposites(self):
        for chart in flat_maps():
            if chart.web.ties and len(faces(chart)) <= 10 and len(chart.web.ties) < 13:
                told = opposite(chart)
                self.assertIs(is_flat(told), True)
                every = set(range(len(chart.web.ties)))
                others = sorted(tuple(sorted(every - set(frame))) for frame in frames(told.web))
                self.assertEqual(others, frames(chart.web))
                turned = {(j, i): many for (i, j), many in table(chart.web).items()}
                self.assertEqual(table(told.web), turned)
                self.assertEqual(len(faces(told)), chart.web.many)

    def test_opposite_of_the_opposite(self):
        for chart in flat_maps():
            if chart.web.ties and len(faces(chart)) <= 10:
                again = opposite(opposite(chart))
                self.assertEqual(again.web.many, chart.web.many)
                self.assertEqual(len(again.web.ties), len(chart.web.ties))
                if len(chart.web.ties) < 13:
                    self.assertEqual(frames(again.web), frames(chart.web))

    def test_by_hand(self):
        self.assert_same(opposite(Map(Web(2, ((0, 1),)), ((0,), (1,)))), Map(Web(1, ((0, 0),)), ((0, 1),)))
        self.assert_same(opposite(Map(Web(1, ((0, 0),)), ((1, 0),))), Map(Web(2, ((0, 1),)), ((0,), (1,))))
        # The faces (0, 4, 3) and (1, 2, 5): the second tie goes from the greater face to the lesser one.
        told = opposite(Map(triangle(), ((0, 2), (1, 4), (3, 5))))
        self.assert_same(told, Map(Web(2, ((0, 1),) * 3), ((0, 4, 2), (1, 3, 5))))
        self.assert_same(opposite(pyramid()).web.many, 4)
        self.assert_same(opposite(octahedron()).web.many, 8)

    def test_order_of_errors(self):
        crooked = Map(Web(1, ((0, 0), (0, 0))), ((0, 2, 1, 3),))
        alone = Map(Web(1, ()), ((),))
        bunch = grown_map(1, 10, 3)
        self.assert_kept(NotFlat, opposite, crooked)
        self.assert_kept(NotFlat, opposite, maps_beside(crooked, alone))
        self.assert_kept(NotFlat, opposite, maps_beside(crooked, bunch))
        self.assert_kept(Apart, opposite, maps_beside(alone, alone))
        self.assert_kept(Apart, opposite, maps_beside(bunch, alone))
        self.assert_kept(Apart, opposite, Map(Web(10, ()), ((),) * 10))
        self.assert_kept(NoTies, opposite, alone)
        self.assertEqual(len(faces(bunch)), 11)
        self.assert_kept(Full, opposite, bunch)
        self.assert_kept(Full, opposite, grown_map(7, 16, 3))
        self.assert_same(opposite(grown_map(1, 9, 3)).web.many, 10)
        self.assert_same(opposite(grown_map(8, 16, 3)).web.many, 10)
        for turns in all_turns(Web(2, ((0, 1), (0, 1), (0, 1)))):
            chart = Map(Web(2, ((0, 1), (0, 1), (0, 1))), turns)
            if not sound_flat(chart):
                self.assert_kept(NotFlat, opposite, chart)


class Lines(Judging):

    def sound_lines(self, chart):
        """Go along by the words: by turns along the tie of a corner's end and along that of the next of it."""
        found = {() for turn in chart.turns if not turn}
        alone = sum(not turn for turn in chart.turns)

        def at(end):
            return [turn for turn in chart.turns if end in turn][0]

        def next_of(end):
            turn = at(end)
            return turn[(turn.index(end) + 1) % len(turn)]

        def ahead_of(end):
            turn = at(end)
            return turn[turn.index(end) - 1]

        for corner in range(2 * len(chart.web.ties)):
            met, here, first = set(), corner, True
            while (here, first) not in met:
                met.add((here, first))
                here = (here + 1 if here % 2 == 0 else here - 1) if first else self.across(next_of(here), ahead_of)
                first = not first
            found.add(tuple(sorted({place for place, _ in met})))
        return [()] * alone + sorted(found - {()})

    def across(self, end, ahead_of):
        return ahead_of(end + 1 if end % 2 == 0 else end - 1)

    def test_by_the_words(self):
        for chart in small_maps() + flat_maps():
            told = lines(chart)
            self.assert_same(told, self.sound_lines(chart))
            corners = [corner for line in told for corner in line]
            self.assertEqual(sorted(corners), list(range(2 * len(chart.web.ties))))

    def test_by_hand(self):
        self.assert_same(lines(Map(Web(2, ((0, 1),)), ((0,), (1,)))), [(0, 1)])
        self.assert_same(lines(Map(Web(1, ((0, 0),)), ((0, 1),))), [(0, 1)])
        self.assert_same(lines(Map(Web(4, ((1, 2),)), ((), (0,), (1,), ()))), [(), (), (0, 1)])
        self.assert_same(lines(Map(Web(2, ((0, 1), (0, 1))), ((0, 2), (1, 3)))), [(0, 1), (2, 3)])
        self.assert_same(lines(Map(Web(3, ()), ((), (), ()))), [(), (), ()])

    def test_fact_of_lines(self):
        many = set()
        for chart in flat_maps():
            count = len(lines(chart))
            self.assertEqual(table_at(chart.web, -1, -1), (-1) ** len(chart.web.ties) * (-2) ** (count - 1))
            many.add(count)
        self.assertLessEqual({1, 2, 3}, many)
        for chart in small_maps():
            if sound_flat(chart) and pieces(chart.web) == 1:
                count = len(lines(chart))
                self.assertEqual(table_at(chart.web, -1, -1), (-1) ** len(chart.web.ties) * (-2) ** (count - 1))


class FiveColours(Judging):

    def assert_painted(self, chart):
        if any(u == v for u, v in chart.web.ties):
            self.assert_kept(Selftied, five, chart)
        else:
            self.assertIs(is_good(chart.web, 5, five(chart)), True)
        self.assertIs(is_thin(chart.web, 5, light_order(chart)), True)

    def test_flat_maps(self):
        for chart in flat_maps() + [chart for chart in small_maps() if sound_flat(chart)]:
            self.assert_painted(chart)

    def test_ten_places_and_sixteen_ties(self):
        for seed in range(60):
            self.assert_painted(grown_map(10, 16, seed))
            chart = grown_map(10, 16, seed, plain=True)
            self.assert_painted(chart)
            self.assertFalse(any(u == v for u, v in chart.web.ties))

    def test_tied_over_and_over(self):
        for places in (4, 5, 6, 7, 8):
            for seed in range(40):
                self.assert_painted(grown_map(places, min(16, 3 * places - 6), seed, plain=True))
        self.assert_painted(octahedron())
        self.assert_painted(wheel_map(5))
        # As its places are numbered, none has more than five neighbours ahead, and yet a sixth colour would be needed.
        self.assertEqual(max(first_fit(steep_map().web, tuple(range(8)))), 5)
        self.assertIs(is_thin(steep_map().web, 5, tuple(range(8))), True)
        self.assert_painted(steep_map())

    def test_in_pieces(self):
        for one, other in ((octahedron(), pyramid()), (grown_map(5, 8, 1), grown_map(5, 8, 2)),
                           (pyramid(), wheel_map(5))):
            if len(one.web.ties) + len(other.web.ties) < 17:
                self.assert_painted(maps_beside(one, other))
        alone = Map(Web(1, ()), ((),))
        self.assert_painted(maps_beside(alone, maps_beside(octahedron(), alone)))
        self.assert_painted(maps_beside(maps_beside(pyramid(), alone), pyramid()))
        self.assert_painted(Map(Web(10, ()), ((),) * 10))

    def test_not_flat(self):
        crooked = [chart for chart in small_maps() if not sound_flat(chart)]
        crooked += [Map(all_tied(6), all_turns_of_one(all_tied(6))), Map(petersen(), all_turns_of_one(petersen()))]
        for chart in crooked + [maps_beside(pyramid(), crooked[0])]:
            self.assert_kept(NotFlat, five, chart)
            self.assert_kept(NotFlat, light_order, chart)
        self.assertTrue(any(u == v for chart in crooked for u, v in chart.web.ties))


def all_turns_of_one(web):
    """Tell one map's turns: each place's ends as they ascend."""
    return tuple(tuple(2 * tie + side for tie, pair in enumerate(web.ties) for side in (0, 1) if pair[side] == place)
                 for place in range(web.many))
