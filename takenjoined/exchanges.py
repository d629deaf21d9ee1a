"""Exchanges of two colours on chains, and the lots of good paintings that they do not lead out of."""

from takenjoined.errors import NoColour, NoColours, NoPainting, NoPlace, TooMany
from takenjoined.kinds import is_below, is_few_colours, is_pair
from takenjoined.paintings import is_good, painted, paintings
from takenjoined.webs import neighbours

MOST_GOOD = 3000


def chain(web, q, painting, place, colour):
    """Tell the chain of a place for its own colour and another one."""
    _judge(web, q, painting, place, colour)
    return chain_of(neighbours(web), painting, place, colour)


def exchanged(web, q, painting, place, colour):
    """Tell the painting with both colours exchanged on a chain."""
    _judge(web, q, painting, place, colour)
    return exchange_of(neighbours(web), painting, place, colour)


def _judge(web, q, painting, place, colour):
    """Raise the error of what is no exchange."""
    if not is_few_colours(q):
        raise NoColours()
    if not is_good(web, q, painting):
        raise NoPainting()
    if not is_below(place, web.many):
        raise NoPlace()
    if not is_below(colour, q) or colour == painting[place]:
        raise NoColour()


def chain_of(near, painting, place, colour):
    """Tell a chain by each place's neighbours; of what is not painted yet no place has the colours."""
    both = (painting[place], colour)
    held = [place]
    waiting = [place]
    while waiting:
        for other in near[waiting.pop()]:
            if painting[other] in both and other not in held:
                held.append(other)
                waiting.append(other)
    return tuple(sorted(held))


def exchange_of(near, painting, place, colour):
    """Tell the painting behind an exchange by each place's neighbours."""
    return _changed(painting, chain_of(near, painting, place, colour), painting[place] + colour)


def _changed(painting, places, both):
    """Tell the painting with two colours exchanged on places, of which each has one of them; both added are given."""
    changed = list(painting)
    for place in places:
        changed[place] = both - painting[place]
    return tuple(changed)


def _exchanges(near, q, painting):
    """List each exchange of a painting once, by its chain's least place, ascending, beside what it leads to."""
    found = []
    for place, own in enumerate(painting):
        for colour in range(q):
            places = chain_of(near, painting, place, colour)
            if colour != own and places[0] == place:
                found.append(((place, colour), _changed(painting, places, own + colour)))
    return found


def _steps_from(web, q, painting):
    """Tell for each painting to which exchanges lead from this one how many of them are needed."""
    near = neighbours(web)
    steps = {painting: 0}
    level = [painting]
    while level:
        ahead = []
        for here in level:
            for _, there in _exchanges(near, q, here):
                if there not in steps:
                    steps[there] = steps[here] + 1
                    ahead.append(there)
        level = ahead
    return steps


def row_between(web, q, one, other):
    """Tell the least of the shortest rows that lead from one good painting to the other, or None."""
    if not is_few_colours(q):
        raise NoColours()
    if not is_good(web, q, one) or not is_good(web, q, other):
        raise NoPainting()
    if painted(web, q) > MOST_GOOD:
        raise TooMany(MOST_GOOD)
    # Each exchange leads back, too: so many lead from the other one to here, so many from here to it.
    steps = _steps_from(web, q, other)
    if one not in steps:
        return None
    near = neighbours(web)
    row = ()
    while one != other:
        nearer = [(pair, there) for pair, there in _exchanges(near, q, one) if steps[there] < steps[one]]
        pair, one = nearer[0]
        row += (pair,)
    return row


def is_row_between(web, q, one, other, thing):
    """Tell whether a thing is a row that leads from one good painting to the other."""
    if not is_few_colours(q):
        raise NoColours()
    if not is_good(web, q, one) or not is_good(web, q, other):
        raise NoPainting()
    if not isinstance(thing, tuple):
        return False
    near = neighbours(web)
    for pair in thing:
        if not is_pair(pair) or not is_below(pair[0], web.many):
            return False
        place, colour = pair
        if not is_below(colour, q) or colour == one[place]:
            return False
        one = exchange_of(near, one, place, colour)
    return one == other


def is_shut(web, q, thing):
    """Tell whether a thing is a shut list of good paintings."""
    if not is_few_colours(q):
        raise NoColours()
    if not isinstance(thing, list) or not thing or not all([is_good(web, q, part) for part in thing]):
        return False
    if not all([one < other for one, other in zip(thing, thing[1:])]):
        return False
    near = neighbours(web)
    held = {painting: True for painting in thing}
    return all([there in held for painting in thing for _, there in _exchanges(near, q, painting)])


def shut_lot(web, q, painting):
    """List, ascending, the least shut list that has a good painting."""
    if not is_few_colours(q):
        raise NoColours()
    if not is_good(web, q, painting):
        raise NoPainting()
    if painted(web, q) > MOST_GOOD:
        raise TooMany(MOST_GOOD)
    return sorted(list(_steps_from(web, q, painting)))


def shut_lots(web, q):
    """List all shut lists within which no lesser one lies, ascending by their first paintings."""
    if not is_few_colours(q):
        raise NoColours()
    if painted(web, q) > MOST_GOOD:
        raise TooMany(MOST_GOOD)
    found = []
    held = {}
    for painting in paintings(web, q):
        if painting not in held:
            lot = sorted(list(_steps_from(web, q, painting)))
            found.append(lot)
            held.update({other: True for other in lot})
    return found
