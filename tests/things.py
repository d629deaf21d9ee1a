"""Things to judge, webs to try, and what several tests ask."""

import unittest
from itertools import combinations, combinations_with_replacement, product

from takenjoined.desks import Desk
from takenjoined.errors import NoTie
from takenjoined.maps import Map
from takenjoined.webs import Web


def nested(kind, depth=40, core=0):
    """Put a core into lists, tuples or dicts, one within the other."""
    thing = core
    for _ in range(depth - 1):
        thing = {0: thing} if kind is dict else kind([thing])
    return thing


def odd_things():
    """List things of all kinds, none of them an integer, a pair of integers or a tuple of these."""
    return [
        None, True, False, "", "0", "many", "(0, 1)", b"", b"\x00\x01", bytearray(b"\x00"), memoryview(b"\x00"),
        [], [0], [0, 1], [(0, 1)], [0, 1, 2], {}, {0: 0}, {0: 1, 1: 2}, {(0, 1): None},
        range(0), range(3), slice(0, 1), Ellipsis, NotImplemented, object(), len, int, tuple, iter(()),
        (None,), ("0",), ((),), ([],), ({},), (True,), (False,), (0, None), (0, "1"), (0, True), (False, 1), ([0, 1],),
        Web(1, ()), Web(3, ((0, 1),)), (Web(1, ()),), NoTie(), NoTie, [Web(1, ())],
        Map(Web(1, ()), ((),)), (Map(Web(1, ()), ((),)),), Desk(),
        nested(tuple), nested(list), nested(dict), nested(tuple, core=Web(1, ())), [0] * 99999, (None,) * 99999,
    ]


def no_index(bound):
    """List what is no number below the bound."""
    tuples = [(), (0,), (0, 1), (0, 0), ((0, 1),)]
    return odd_things() + tuples + [-1, -2, -bound, -bound - 1, bound, bound + 1, 10 ** 20 - 1, 1 - 10 ** 20]


def no_integer():
    """List what is no integer at all."""
    return odd_things() + [(), (0,), (0, 1)]


def no_colours():
    """List what is no number of colours of a painting of any size."""
    return no_integer() + [-1, -2, 10 ** 9 + 1, 10 ** 20 - 1, 1 - 10 ** 20]


def otherwise(thing):
    """List things like this one but for one thing at one place in it; some may be as good as it is."""
    found = [None, "", (), [], nested(tuple), nested(list)]
    if isinstance(thing, bool):
        return found + [not thing, int(thing), str(thing), [thing]]
    if isinstance(thing, int):
        return found + [thing - 1, thing + 1, -thing, thing + 10 ** 19, str(thing), (thing,), bool(thing), {thing: 0}]
    if isinstance(thing, str):
        return found + [thing + " ", thing[1:], thing.encode(), thing.upper(), (thing,)]
    if isinstance(thing, Web):
        more = [Web(thing.many, thing.ties + ((0, 0),)), Web(thing.many % 10 + 1, thing.ties)]
        return found + more + [Web(thing.many, thing.ties[:-1]), (thing.many, thing.ties), thing.ties]
    if isinstance(thing, (tuple, list)):
        return found + otherwise_rows(thing)
    return found + [0, False, True, [None]]


def otherwise_rows(row):
    """List tuples or lists like this one but for one thing at one place."""
    kind = type(row)
    other = list if kind is tuple else tuple
    found = [other(row), kind(reversed(row)), kind([row]), dict(enumerate(row)), row + row]
    for at, part in enumerate(row):
        found += [row[:at] + row[at + 1:], row[:at] + kind([part]) + row[at:]]
        found += [row[:at] + kind([new]) + row[at + 1:] for new in otherwise(part)]
    return found


def form(thing):
    """Tell what a thing holds, so that a change of it can be seen."""
    if isinstance(thing, Web):
        return ("Web", form(thing.many), form(thing.ties))
    if isinstance(thing, Map):
        return ("Map", form(thing.web), form(thing.turns))
    if isinstance(thing, (list, tuple)) and len(thing) < 1000:
        return (type(thing), [form(part) for part in thing])
    if isinstance(thing, dict):
        return (dict, [(form(key), form(part)) for key, part in thing.items()])
    return (type(thing), repr(thing))


def webs_of(many, most):
    """List all webs of so many places with at most so many ties, in one order of the ties each."""
    pairs = list(combinations_with_replacement(range(many), 2))
    return [Web(many, ties) for count in range(most + 1) for ties in combinations_with_replacement(pairs, count)]


def way_webs_of(many, count):
    """List all webs of so many places with just so many ties, in each order of the ties."""
    pairs = list(combinations_with_replacement(range(many), 2))
    return [Web(many, ties) for ties in product(pairs, repeat=count)]


def small_webs():
    """List webs enough to try what holds of each one."""
    webs = [web for many in (1, 2, 3) for web in webs_of(many, 3)] + way_webs_of(2, 3) + way_webs_of(3, 2)
    return webs + webs_of(4, 2) + [triangle(), wheel(), petersen(), ladder(), Web(10, ()), Web(1, ((0, 0),) * 16)]


def triangle():
    return Web(3, ((0, 1), (0, 2), (1, 2)))


def wheel():
    """Four places around a fifth one, the ties not in an order."""
    return Web(5, ((3, 4), (0, 1), (2, 4), (1, 2), (0, 4), (2, 3), (1, 4), (0, 3)))


def all_tied(many):
    """Each two places tied."""
    return Web(many, tuple(combinations(range(many), 2)))


def ring_of(many):
    """As many places as ties, all in one ring, the ties not in an order."""
    ties = [(place, place + 1) for place in range(many - 1)] + [(0, many - 1)]
    return Web(many, tuple(ties[1::2] + ties[::2]))


def crowded():
    """Ten places and sixteen ties, no two of them alike."""
    ties = [(0, 9), (1, 8), (2, 7), (3, 6), (4, 5), (0, 1), (1, 2), (2, 3), (3, 4), (5, 9), (6, 8), (7, 9), (0, 5)]
    return Web(10, tuple(ties + [(2, 8), (4, 7), (1, 6)]))


def petersen():
    outer = [(k, k + 1) for k in range(4)] + [(0, 4)]
    inner = [(5, 7), (7, 9), (6, 9), (6, 8), (5, 8)]
    return Web(10, tuple(outer + [(k, k + 5) for k in range(5)] + inner))


def ladder():
    """Two triangles, a bridge between them, a selftie, two alike ties and a place alone."""
    return Web(8, ((0, 1), (3, 4), (1, 2), (2, 3), (0, 2), (3, 5), (4, 5), (5, 5), (5, 6), (5, 6)))


def lots(count):
    """List all lots of the numbers below count."""
    return [lot for size in range(count + 1) for lot in combinations(range(count), size)]


class Judging(unittest.TestCase):
    """Asks what a call raises, and that it changes nothing."""

    def assert_kept(self, error, call, *given):
        """The call raises just this error, and what it was given is as it was; tell the error."""
        ahead = [form(thing) for thing in given]
        with self.assertRaises(Exception) as caught:
            call(*given)
        self.assertIs(type(caught.exception), error, (call, [repr(thing)[:80] for thing in given]))
        self.assertEqual([form(thing) for thing in given], ahead)
        return caught.exception

    def assert_same(self, one, other):
        """Both are equal, flags and integers, tuples and lists apart."""
        self.assertEqual(form(one), form(other))

    def assert_web(self, web, many, ties):
        """A thing is the Web of so many places and these ties."""
        self.assertIs(type(web), Web)
        self.assert_same(web.many, many)
        self.assert_same(web.ties, ties)
