"""Maps to try: all maps of small webs, and flat maps that are grown, drawn or put beside one another."""

from itertools import permutations, product
from math import atan2
from random import Random

from takenjoined.maps import Map
from takenjoined.webs import Web


def ends_at(web, place):
    ends = [(2 * tie + side, own) for tie, pair in enumerate(web.ties) for side, own in enumerate(pair)]
    return [end for end, own in ends if own == place]


def all_turns(web):
    """List the turns of all maps of a web, each turn begun with its least end."""
    each = []
    for place in range(web.many):
        ends = ends_at(web, place)
        each.append([tuple(ends[:1]) + rest for rest in permutations(ends[1:])])
    return list(product(*each))


def all_maps(web):
    return [Map(web, turns) for turns in all_turns(web)]


def sound_faces(web, turns):
    """List the faces by the document's words."""
    def step(end):
        other = end + 1 if end % 2 == 0 else end - 1
        turn = [turn for turn in turns if other in turn][0]
        return turn[(turn.index(other) + 1) % len(turn)]
    found = [() for turn in turns if turn == ()]
    for end in range(2 * len(web.ties)):
        face = [end]
        while step(face[-1]) != end:
            face.append(step(face[-1]))
        if min(face) == end:
            found.append(tuple(face))
    return sorted(found)


def pieces(web):
    parts = [{place} for place in range(web.many)]
    for pair in web.ties:
        met = [part for part in parts if part & set(pair)]
        parts = [part for part in parts if part not in met] + [set().union(*met)]
    return len(parts)


def sound_flat(chart):
    web = chart.web
    return web.many - len(web.ties) + len(sound_faces(web, chart.turns)) == 2 * pieces(web)


def grown_map(places, ties, seed, plain=False):
    """Grow a flat map that hangs together: places are put into faces, and ties across faces.

    A plain one has neither selfties nor alike ties, and fewer ties where no more are found to fit.
    """
    rng = Random(seed)
    pairs, turns = [], [[]]
    for _ in range(400):
        number = len(pairs)
        if number == ties:
            break
        if len(turns) < places and (number < places - 1 or rng.random() < 0.5):
            place = rng.randrange(len(turns))
            turns[place].insert(rng.randrange(len(turns[place]) + 1), 2 * number)
            turns.append([2 * number + 1])
            pairs.append((place, len(turns) - 1))
            continue
        web, rows = Web(len(turns), tuple(pairs)), tuple(map(tuple, turns))
        face = rng.choice(sound_faces(web, rows))
        if not face:
            turns[0] += [0, 1]
            pairs.append((0, 0))
            continue
        # A new end that stands just ahead of an end of the face lies within it.
        ahead = sorted((next(p for p, row in enumerate(turns) if end in row), end) for end in rng.choices(face, k=2))
        (u, first), (v, second) = ahead
        if plain and (u == v or (u, v) in pairs):
            continue
        turns[v].insert(turns[v].index(second), 2 * number + 1)
        turns[u].insert(turns[u].index(first), 2 * number)
        pairs.append((u, v))
    return Map(Web(len(turns), tuple(pairs)), tuple(map(tuple, turns)))


def drawn_map(points, ties):
    """Tell the map of a web that is drawn by straight lines between points."""
    web = Web(len(points), tuple(ties))
    turns = []
    for place, (x, y) in enumerate(points):
        angles = []
        for end in ends_at(web, place):
            u, v = web.ties[end // 2]
            there = points[v if end % 2 == 0 else u]
            angles.append((atan2(there[1] - y, there[0] - x), end))
        turns.append(tuple(end for _, end in sorted(angles)))
    return Map(web, tuple(turns))


def maps_beside(one, other):
    """Tell the map of two maps that share nothing."""
    ties = tuple((u + one.web.many, v + one.web.many) for u, v in other.web.ties)
    shift = 2 * len(one.web.ties)
    turns = tuple(tuple(end + shift for end in turn) for turn in other.turns)
    return Map(Web(one.web.many + other.web.many, one.web.ties + ties), one.turns + turns)


def octahedron():
    points = [(0, 10), (-10, -8), (10, -8), (0, -3), (2, 1), (-2, 1)]
    ties = [(0, 1), (0, 2), (1, 2), (3, 4), (3, 5), (4, 5), (0, 4), (0, 5), (1, 3), (1, 5), (2, 3), (2, 4)]
    return drawn_map(points, ties)


def pyramid():
    """Four places, each tied to each other one, drawn flat."""
    return drawn_map([(0, 10), (-10, -8), (10, -8), (0, 0)], [(0, 1), (0, 2), (0, 3), (1, 2), (1, 3), (2, 3)])


def steep_map():
    """Eight places to which first_fit gives six colours as they are numbered, drawn flat."""
    points = [(-5, 0), (2, -5), (-3, 0), (4, -6.5), (0, 10), (-10, -8), (10, -8), (0, -2)]
    ties = [(0, 2), (0, 4), (0, 5), (1, 3), (1, 6), (1, 7), (2, 4), (2, 5), (2, 7), (3, 6)]
    return drawn_map(points, ties + [(4, 5), (4, 6), (4, 7), (5, 6), (5, 7), (6, 7)])


def wheel_map(many):
    """A ring of places and one more in its midst, drawn flat."""
    rim = [((-7, 0, 7, 4, -4)[k], (2, 9, 2, -8, -8)[k]) for k in range(5)][:many]
    ties = [(k, k + 1) for k in range(many - 1)] + [(0, many - 1)] + [(k, many) for k in range(many)]
    return drawn_map(rim + [(0, 0)], ties)


def flat_maps():
    """List flat maps that hang together, alike ties, selfties and bridges among them."""
    maps = [grown_map(places, ties, seed) for seed, (places, ties) in enumerate(
        [(1, 0), (1, 1), (1, 3), (2, 1), (2, 4), (3, 2), (3, 5), (4, 3), (4, 7), (5, 8), (6, 6), (6, 11), (8, 12)] * 4)]
    maps += [grown_map(10, ties, 100 + ties) for ties in range(9, 17)] + [grown_map(10, 16, seed) for seed in range(8)]
    return maps + [octahedron(), pyramid(), wheel_map(4), wheel_map(5)]


def small_maps():
    """List all maps of small webs, flat or not, in pieces, too."""
    webs = [Web(1, ()), Web(3, ()), Web(1, ((0, 0),)), Web(1, ((0, 0), (0, 0))), Web(2, ((0, 1), (0, 1), (0, 1)))]
    webs += [Web(2, ((0, 1), (1, 1))), Web(3, ((0, 1), (0, 2), (1, 2))), Web(4, ((0, 1), (2, 3), (2, 3), (3, 3)))]
    webs += [Web(4, ((0, 1), (0, 2), (0, 3), (1, 2), (1, 3), (2, 3))), Web(2, ((0, 1), (0, 0), (0, 1)))]
    webs += [Web(3, ((0, 2), (0, 1), (0, 2), (1, 1))), Web(4, ((1, 3), (0, 3)))]
    return [chart for web in webs for chart in all_maps(web)]
