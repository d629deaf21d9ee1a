"""What hangs together in a web: parts, rank, rings and bridges."""

from takenjoined.errors import NoTies
from takenjoined.kinds import is_lot


def parts(web, lot):
    """List the lots of places that hang together by a lot of ties."""
    if not is_lot(lot, len(web.ties)):
        raise NoTies()
    marks = list(range(web.many))
    for tie in lot:
        u, v = web.ties[tie]
        # The lesser mark stays, so that each part is marked by its least place.
        kept, gone = min(marks[u], marks[v]), max(marks[u], marks[v])
        marks = [kept if mark == gone else mark for mark in marks]
    lots = [_marked(marks, mark) for mark in range(web.many)]
    return [places for places in lots if places]


def _marked(marks, mark):
    """Tell the lot of places that have this mark."""
    return tuple([place for place, own in enumerate(marks) if own == mark])


def rank(web, lot):
    """Tell how many places there are less the parts that hang together by a lot of ties."""
    return web.many - len(parts(web, lot))


def rings(web):
    """List all rings of a web, ascending."""
    found = []
    for first in range(len(web.ties)):
        found.extend(_rings_from(web, first))
    return sorted(found)


def _rings_from(web, first):
    """List the rings whose least tie is the first one."""
    # Gone through from this tie, to and along it, each such ring is met just once.
    goal, begin = web.ties[first]
    found = []
    walks = [(begin, (first,), (begin,))]
    while walks:
        place, gone, met = walks.pop()
        if place == goal:
            found.append(tuple(sorted(gone)))
        else:
            walks.extend(_steps(web, place, gone, met))
    return found


def _steps(web, place, gone, met):
    """List the walks that are one tie longer, by a tie above the first one, to a place not met."""
    longer = []
    for tie in range(gone[0] + 1, len(web.ties)):
        u, v = web.ties[tie]
        if place in (u, v):
            ahead = u + v - place
            if ahead not in met:
                longer.append((ahead, gone + (tie,), met + (ahead,)))
    return longer


def bridges(web):
    """Tell the lot of ties that are in no ring."""
    ringed = [tie for ring in rings(web) for tie in ring]
    return tuple([tie for tie in range(len(web.ties)) if tie not in ringed])
