"""Lots of ties without a broken ring, and the pairs of all others."""

from takenjoined.errors import NoTies, NoWay
from takenjoined.kinds import is_lot, is_order
from takenjoined.rings import rings


def unbroken(web, way):
    """List all lots of ties within which no broken ring by a way lies, ascending."""
    if not is_order(way, len(web.ties)):
        raise NoWay()
    broken = [lot for _, lot in _broken_rings(web, way)]
    found = []
    waiting = [()]
    while waiting:
        lot = waiting.pop()
        # Without its last tie the lot is unbroken: only what ends with this tie, too, may lie within it.
        if not any([ring[-1:] == lot[-1:] and _lies_within(ring, lot) for ring in broken]):
            found.append(lot)
            least = lot[-1] + 1 if lot else 0
            waiting.extend([lot + (tie,) for tie in reversed(range(least, len(web.ties)))])
    return found


def _broken_rings(web, way):
    """List for each ring the tie that a way has first, and the lot of the others."""
    pairs = []
    for ring in rings(web):
        first = min([(way.index(tie), tie) for tie in ring])[1]
        pairs.append((first, tuple([tie for tie in ring if tie != first])))
    return pairs


def _lies_within(lot, other):
    """Tell whether all ties of a lot are in the other one."""
    return all([tie in other for tie in lot])


def mate(web, way, lot):
    """Tell the lot that falls away together with this one, or None of an unbroken lot."""
    if not is_order(way, len(web.ties)):
        raise NoWay()
    if not is_lot(lot, len(web.ties)):
        raise NoTies()
    firsts = [way.index(first) for first, rest in _broken_rings(web, way) if _lies_within(rest, lot)]
    if not firsts:
        return None
    tie = way[min(firsts)]
    if tie in lot:
        return tuple([other for other in lot if other != tie])
    return tuple(sorted(lot + (tie,)))
