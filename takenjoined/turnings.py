"""Sources that are turned, and the signings that lead to one another so."""

from takenjoined.errors import Apart, NoPlace, NoSigning, NoSource
from takenjoined.kinds import is_below, is_integer, is_lot
from takenjoined.rings import parts, rings
from takenjoined.signings import is_rising, rising, sources


def turned(web, signing, place):
    """Tell the signing behind a source's turning."""
    if not is_rising(web, signing):
        raise NoSigning()
    if not _is_source(web, signing, place):
        raise NoSource()
    return _behind(web, signing, place)


def _is_source(web, signing, thing):
    """Tell whether a thing is a source of a signing."""
    return is_below(thing, web.many) and thing in sources(web, signing)


def _behind(web, signing, place):
    """Tell the signing in which all ties of a place that is a source go to it."""
    return tuple([flag != (place in tie) for tie, flag in zip(web.ties, signing)])


def leads(web, signing, other):
    """Tell a row of sources that lead from a signing to the other one, or a ring that bars it."""
    if not is_rising(web, signing) or not is_rising(web, other):
        raise NoSigning()
    for ring in rings(web):
        one_count, other_count = _count(web, ring, signing), _count(web, ring, other)
        if one_count != other_count:
            return "ring", ring, one_count, other_count
    return "row", _row(web, signing, _turns(web, signing, other))


def _count(web, ring, signing):
    """Tell how many ties of a ring, gone through from its least place as its count asks, go along."""
    place = min([web.ties[tie][0] for tie in ring])
    left = list(ring)
    along = 0
    while left:
        # Only at the first place there are two to choose from: the lesser neighbour, or else the lesser tie.
        ahead, tie = min([(sum(web.ties[tie]) - place, tie) for tie in left if place in web.ties[tie]])
        if signing[tie] == (place < ahead):
            along += 1
        left.remove(tie)
        place = ahead
    return along


def _turns(web, signing, other):
    """List how often each place is to be turned, no ring barring it."""
    turns = [0] * web.many
    # A tie's first end is turned as often as the other one if the tie is to go as it did, else once more.
    for _ in range(web.many):
        for tie, flag, due in zip(web.ties, signing, other):
            ahead, to = tie if flag else (tie[1], tie[0])
            more = 1 if flag != due else 0
            turns[ahead] = max(turns[ahead], turns[to] + more)
            turns[to] = max(turns[to], turns[ahead] - more)
    return turns


def _row(web, signing, turns):
    """Tell places that are turned as often as they are to be, each a source then."""
    row = ()
    for _ in range(sum(turns)):
        place = min([place for place in sources(web, signing) if turns[place] > row.count(place)])
        signing = _behind(web, signing, place)
        row += (place,)
    return row


def is_leading(web, signing, other, thing):
    """Tell whether a thing is a row that leads from a signing to the other one, or a ring that bars it."""
    if not is_rising(web, signing) or not is_rising(web, other):
        raise NoSigning()
    if not isinstance(thing, tuple) or not thing or not isinstance(thing[0], str):
        return False
    if thing[0] == "row":
        return len(thing) == 2 and _is_row(web, signing, other, thing[1])
    return thing[0] == "ring" and len(thing) == 4 and _is_bar(web, signing, other, thing[1:])


def _is_row(web, signing, other, thing):
    """Tell whether a thing is a tuple of places that are turned, each a source then, and lead to the other signing."""
    if not isinstance(thing, tuple):
        return False
    for place in thing:
        if not _is_source(web, signing, place):
            return False
        signing = _behind(web, signing, place)
    return signing == other


def _is_bar(web, signing, other, three):
    """Tell whether three things are a ring and its counts by both signings, which are unlike."""
    ring, one_count, other_count = three
    if not is_lot(ring, len(web.ties)) or ring not in rings(web):
        return False
    if not is_integer(one_count) or not is_integer(other_count) or one_count == other_count:
        return False
    return one_count == _count(web, ring, signing) and other_count == _count(web, ring, other)


def rooted(web, signing, place):
    """Tell the signing to which turnings lead and of which a place is the only source."""
    if not is_rising(web, signing):
        raise NoSigning()
    if not is_below(place, web.many):
        raise NoPlace()
    if len(parts(web, tuple(range(len(web.ties))))) > 1:
        raise Apart()
    # A place so many ties away from this one is turned at most as many times: it comes to an end.
    others = [source for source in sources(web, signing) if source != place]
    while others:
        signing = _behind(web, signing, others[0])
        others = [source for source in sources(web, signing) if source != place]
    return signing


def only(web, place):
    """List the signings without rounds of which a place is the only source, ascending."""
    if not is_below(place, web.many):
        raise NoPlace()
    return [signing for signing in rising(web) if sources(web, signing) == (place,)]
