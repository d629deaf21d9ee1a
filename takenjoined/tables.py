"""Frames of a web, which of their ties are busy by a way, and the one table that each way tells."""

from itertools import combinations

from takenjoined.errors import NoFrame, NoNumber, NoTies, NoWay
from takenjoined.kinds import is_between, is_lot, is_order
from takenjoined.rings import rank

MOST_AT = 99


def frames(web):
    """List the lots of ties without a ring to which none can be put without one, ascending."""
    return _free_lots(web, full_rank(web))


def full_rank(web):
    """Tell the rank of all ties: each frame has so many."""
    return rank(web, tuple(range(len(web.ties))))


def _free_lots(web, size):
    """List the lots of so many ties that have no ring, ascending."""
    return [lot for lot in combinations(range(len(web.ties)), size) if _is_free(web, lot)]


def _is_free(web, lot):
    """Tell whether a lot of ties has no ring."""
    marks = list(range(web.many))
    for tie in lot:
        one, other = [marks[place] for place in web.ties[tie]]
        if one == other:
            return False
        marks = [one if mark == other else mark for mark in marks]
    return True


def busy(web, way, frame):
    """Tell the lots of ties that are busy inwards and outwards of a frame by a way."""
    if not is_order(way, len(web.ties)):
        raise NoWay()
    if not is_lot(frame, len(web.ties)) or len(frame) != full_rank(web) or not _is_free(web, frame):
        raise NoFrame()
    return _busy(web, _bits(way), frame)


def _bits(way):
    """List for each tie a bit: the further ahead in a way the lesser."""
    bits = [0] * len(way)
    for at, tie in enumerate(way):
        bits[tie] = 1 << at
    return bits


def _busy(web, bits, frame):
    """Tell both lots of busy ties by the ties' bits."""
    paths = _paths(web, bits, frame)
    barred = 0
    outwards = ()
    for tie, (u, v) in enumerate(web.ties):
        if tie not in frame:
            # It can stand in the place of each tie of the ring that it makes, and of no other one.
            ring = paths[u] ^ paths[v]
            ahead = ring & (bits[tie] - 1)
            barred |= ring - ahead
            if not ahead:
                outwards += (tie,)
    return tuple([tie for tie in frame if not bits[tie] & barred]), outwards


def _paths(web, bits, frame):
    """List for each place the bits of the frame's ties that lead to it from one place of its part."""
    paths = [-1] * web.many
    for first in range(web.many):
        if paths[first] < 0:
            paths[first] = 0
            waiting = [first]
            while waiting:
                place = waiting.pop()
                for tie, ahead in _steps(web, frame, place):
                    if paths[ahead] < 0:
                        paths[ahead] = paths[place] | bits[tie]
                        waiting.append(ahead)
    return paths


def _steps(web, frame, place):
    """List the ties of a frame that a place has, each beside the place that it leads to."""
    return [(tie, sum(web.ties[tie]) - place) for tie in frame if place in web.ties[tie]]


def table(web):
    """Tell for each pair how many frames have so many ties busy inwards and outwards."""
    return table_by(web, tuple(range(len(web.ties))))


def table_by(web, way):
    """Tell the table by a way."""
    if not is_order(way, len(web.ties)):
        raise NoWay()
    bits = _bits(way)
    told = {}
    for frame in frames(web):
        inwards, outwards = _busy(web, bits, frame)
        pair = (len(inwards), len(outwards))
        told[pair] = told.get(pair, 0) + 1
    return told


def frame_of(web, way, lot):
    """Tell the frame in whose stretch a lot of ties lies by a way."""
    if not is_order(way, len(web.ties)):
        raise NoWay()
    if not is_lot(lot, len(web.ties)):
        raise NoTies()
    bits = _bits(way)
    return [frame for frame in frames(web) if _is_in_stretch(frame, _busy(web, bits, frame), lot)][0]


def _is_in_stretch(frame, both, lot):
    """Tell whether a lot lies in the stretch of a frame, of which both lots of busy ties are given."""
    inwards, outwards = both
    if not all([tie in lot or tie in inwards for tie in frame]):
        return False
    return all([tie in frame or tie in outwards for tie in lot])


def table_at(web, x, y):
    """Tell the sum over the table of each number times x and y to the powers of its pair."""
    if not is_between(x, -MOST_AT, MOST_AT) or not is_between(y, -MOST_AT, MOST_AT):
        raise NoNumber()
    return sum([many * power(x, i) * power(y, j) for (i, j), many in table(web).items()])


def power(base, count):
    """Tell an integer to the power of a number, 0 to the power of 0 being 1."""
    value = 1
    for _ in range(count):
        value *= base
    return value
