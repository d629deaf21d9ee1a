"""Point [7.3]: forests that force each painter to many colours, or to what is wrong."""

from takenjoined.coming import first_painter, forest_foe, is_comings, is_forced, is_forest, led
from takenjoined.errors import NoNumber, NoPlace
from takenjoined.webs import Web
from tests.test_coming import all_comings, any_painter, has_ring
from tests.things import Judging, form, nested, no_integer, odd_things, otherwise


def fresh_painter(comings, colours):
    return len(colours)


def same_painter(comings, colours):
    return 0


def last_painter(comings, colours):
    """The greatest colour that has come and may be told, else a new one."""
    free = [colour for colour in colours if colour not in [colours[place] for place in comings[-1]]]
    return max(free, default=max(colours, default=-1) + 1)


def wrong_at(place, told, kind=1):
    """A painter that tells what is none at a place, whatever comes there."""
    def painter(comings, colours):
        return told if len(colours) == place else any_painter(kind)(comings, colours)
    return painter


def alike(one, other):
    """Tell whether two things are equal, flags and integers apart within them, too."""
    if isinstance(one, bool) or isinstance(other, bool):
        return one is other
    if type(one) in (list, tuple) and type(one) is type(other):
        return len(one) == len(other) and all(map(alike, one, other))
    if isinstance(one, dict) and isinstance(other, dict):
        return list(one) == list(other) and all(alike(one[key], other[key]) for key in one)
    return one == other


def holds(painter, many, thing):
    """Tell by the document's words whether a thing is a triple that forces a painter."""
    if type(thing) is not tuple or len(thing) != 3 or not is_comings(thing[1]):
        return False
    word, comings, told = thing
    if len(comings) > 2 ** (many - 1) or has_ring(comings):
        return False
    what = led(painter, comings)
    if word == "forest":
        return what[0] == "colours" and alike(what[1], told) and len(set(what[1])) >= many
    return word == "wrong" and what[0] == "wrong" and what[1] == len(comings) - 1 and alike(what[2], told)


RIGHT = [first_painter, fresh_painter, last_painter] + [any_painter(kind) for kind in (1, 2, 4, 5, 7, 8)]
WRONG = [None, -1, 1000, True, False, [0], (0,), "0", {}, {0: [True]}, [1, (True, [False])], nested(list, 30)]


class ForestFoe(Judging):

    def assert_forces(self, painter, many):
        told = forest_foe(painter, many)
        self.assertIs(type(told), tuple)
        self.assertEqual(len(told), 3)
        self.assertIs(is_comings(told[1]), True)
        self.assertIs(is_forest(told[1]), True)
        self.assertLessEqual(len(told[1]), 2 ** (many - 1))
        self.assertTrue(holds(painter, many, told), (many, told))
        self.assertIs(is_forced(painter, many, told), True)
        return told

    def test_painters_that_tell_right_colours(self):
        for painter in RIGHT:
            for many in range(1, 7):
                told = self.assert_forces(painter, many)
                self.assertEqual(told[0], "forest")
                self.assertGreaterEqual(len(set(told[2])), many)

    def test_least_number_painter_needs_all_places(self):
        for many in range(1, 7):
            told = forest_foe(first_painter, many)
            self.assertEqual((len(told[1]), set(told[2])), (2 ** (many - 1), set(range(many))))

    def test_same_colour(self):
        self.assertEqual(forest_foe(same_painter, 1)[0], "forest")
        for many in range(2, 7):
            told = self.assert_forces(same_painter, many)
            self.assertEqual((told[0], told[2]), ("wrong", 0))

    def test_what_is_none_at_some_place(self):
        for many in range(1, 7):
            for place in range(2 ** (many - 1) + 1):
                told = self.assert_forces(wrong_at(place, (None, -1, 1000, True, "x")[place % 5]), many)
                if told[0] == "wrong":
                    self.assertEqual(len(told[1]), place + 1)

    def test_each_thing_that_is_none(self):
        for thing in no_integer() + WRONG + [1001, 10 ** 20]:
            for place in (0, 1, 3):
                told = forest_foe(wrong_at(place, thing, 2), 5)
                self.assertEqual((told[0], len(told[1])), ("wrong", place + 1))
                self.assertIs(told[2], thing)
                self.assertIs(is_forced(wrong_at(place, thing, 2), 5, told), True)

    def test_painters_that_answer_by_all(self):
        words = set()
        for kind in range(120):
            for many in range(1, 7):
                words.add(self.assert_forces(any_painter(kind), many)[0])
        self.assertEqual(words, {"forest", "wrong"})

    def test_what_a_painter_is_called_with(self):
        asked = []

        def painter(comings, colours):
            asked.append((comings, colours))
            return last_painter(comings, colours)
        forest_foe(painter, 6)
        for comings, colours in asked:
            self.assertIs(is_comings(comings), True)
            self.assertIs(is_forest(comings), True)
            self.assertLessEqual(len(comings), 32)
            self.assertIs(type(colours), tuple)
            self.assert_same(led(last_painter, comings[:-1])[1] if comings[:-1] else (), colours)

    def test_errors_go_on(self):
        for error in (KeyError, NoPlace, ValueError, StopIteration):
            def painter(comings, colours):
                if len(colours) == 3:
                    raise error()
                return last_painter(comings, colours)
            self.assert_kept(error, forest_foe, painter, 4)
            self.assert_kept(error, is_forced, painter, 4, ("forest", ((),) * 4, (0, 1, 2, 3)))
            self.assert_same(forest_foe(painter, 2), ("forest", ((), (0,)), (0, 1)))

    def test_no_number(self):
        for thing in no_integer() + [0, -1, 7, 8, 10 ** 20 - 1]:
            self.assert_kept(NoNumber, forest_foe, first_painter, thing)
            self.assert_kept(NoNumber, is_forced, first_painter, thing, ("forest", ((),), (0,)))
            self.assert_kept(NoNumber, is_forced, self.fail, thing, None)


class Forced(Judging):

    def test_all_small_comings(self):
        for painter in (first_painter, fresh_painter, last_painter, same_painter, any_painter(3), any_painter(6)):
            for places in range(1, 5):
                for comings in all_comings(places):
                    what = led(painter, comings)
                    for many in range(1, 5):
                        for word in ("forest", "wrong"):
                            thing = (word, comings, what[-1])
                            self.assertIs(is_forced(painter, many, thing), holds(painter, many, thing))

    def test_one_thing_otherwise(self):
        for painter in (first_painter, any_painter(4), same_painter, wrong_at(2, 1000)):
            for many in (1, 2, 3, 4):
                thing = forest_foe(painter, many)
                for other in otherwise(thing):
                    self.assertIs(is_forced(painter, many, other), holds(painter, many, other), other)

    def test_kinds_of_what_is_wrong(self):
        for told in WRONG:
            painter = wrong_at(1, told)
            for other in WRONG + otherwise(told) + [0, 1, [False], (False,), {0: [1]}, [1, (1, [0])],
                                                    [1, [True, [False]]]]:
                thing = ("wrong", ((), ()), other)
                self.assertIs(is_forced(painter, 2, thing), alike(told, other), (told, other))

    def test_kinds_deep_within(self):
        for kind in (list, tuple, dict):
            for core, other in ((True, 1), (False, 0), ((0,), [0]), ([1], [True]), ({0: 1}, {0: True}), (1, 2)):
                deep = wrong_at(0, nested(kind, 28, core))
                self.assertIs(is_forced(deep, 1, ("wrong", ((),), nested(kind, 28, core))), True)
                self.assertIs(is_forced(deep, 1, ("wrong", ((),), nested(kind, 28, other))), False)
                self.assertIs(is_forced(deep, 1, ("wrong", ((),), nested(kind, 29, core))), False)
        self.assertIs(is_forced(wrong_at(0, Web(1, ())), 1, ("wrong", ((),), Web(1, ()))), True)
        self.assertIs(is_forced(wrong_at(0, b"0"), 1, ("wrong", ((),), bytearray(b"0"))), True)

    def test_kinds_of_colours(self):
        for colours in ((0, True), (False, 1), [0, 1], (0, 1, 2), (0,), (1, 0), (0, "1"), (0, None), None, 0, (0, [1])):
            self.assertIs(is_forced(first_painter, 2, ("forest", ((), (0,)), colours)), False)
        self.assertIs(is_forced(first_painter, 2, ("forest", ((), (0,)), (0, 1))), True)

    def test_too_many_places_or_too_few_colours(self):
        self.assertIs(is_forced(fresh_painter, 2, ("forest", ((), ()), (0, 1))), True)
        self.assertIs(is_forced(fresh_painter, 2, ("forest", ((), (), ()), (0, 1, 2))), False)
        self.assertIs(is_forced(fresh_painter, 3, ("forest", ((), (), ()), (0, 1, 2))), True)
        self.assertIs(is_forced(fresh_painter, 3, ("forest", ((), (0,), (0, 1)), (0, 1, 2))), False)
        self.assertIs(is_forced(fresh_painter, 4, ("forest", ((), (), ()), (0, 1, 2))), False)
        self.assertIs(is_forced(same_painter, 1, ("wrong", ((), (0,)), 0)), False)
        self.assertIs(is_forced(same_painter, 2, ("wrong", ((), (0,)), 0)), True)
        self.assertIs(is_forced(same_painter, 3, ("wrong", ((), (0,), (1,)), 0)), False)
        self.assertIs(is_forced(same_painter, 3, ("wrong", ((), (), (1,)), 0)), True)
        self.assertIs(is_forced(same_painter, 3, ("wrong", ((), (), ()), 0)), False)
        thirty = tuple((k - 1,) if k else () for k in range(32))
        self.assertIs(is_forced(fresh_painter, 6, ("forest", thirty, tuple(range(32)))), True)
        self.assertIs(is_forced(fresh_painter, 6, ("forest", thirty + ((),), tuple(range(33)))), False)

    def test_what_is_no_triple(self):
        for thing in odd_things() + [(), ("forest",), ("forest", ((),)), ("forest", ((),), (0,), 0)]:
            self.assertIs(is_forced(first_painter, 1, thing), False)
            for part in (("forest", ((),), thing), ("forest", thing, (0,)), (thing, ((),), (0,))):
                if form(part) != form(("forest", ((),), (0,))):
                    self.assertIs(is_forced(first_painter, 1, part), False)
        self.assertIs(is_forced(first_painter, 1, ["forest", ((),), (0,)]), False)
        self.assertIs(is_forced(first_painter, 1, ("Forest", ((),), (0,))), False)
