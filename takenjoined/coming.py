"""Places that come one behind another, painters that paint them as they come, and forests that force each painter."""

from takenjoined.errors import NoComings, NoForest, NoNumber, NoOrder, NoPlace
from takenjoined.kinds import is_alike, is_below, is_between, is_integers, is_lot, is_order
from takenjoined.thin import least_but
from takenjoined.webs import neighbours

MOST_COMINGS = 63
MOST_TOLD = 1000
MOST_FORCED = 6


def is_comings(thing):
    """Tell whether a thing is a tuple with, for each place, the lot of the places ahead to which it is tied."""
    if not isinstance(thing, tuple) or not 1 <= len(thing) <= MOST_COMINGS:
        return False
    return all([is_lot(lot, place) for place, lot in enumerate(thing)])


def comings_of(web, order):
    """Tell the comings of a web's places in an order."""
    if not is_order(order, web.many):
        raise NoOrder()
    near = neighbours(web)
    return tuple([_numbers_of(near[place], order[:at]) for at, place in enumerate(order)])


def _numbers_of(places, ahead):
    """Tell the lot of numbers under which some places came, if they are among those ahead."""
    return tuple([number for number, place in enumerate(ahead) if place in places])


def is_forest(comings):
    """Tell whether there is no ring among comings."""
    if not is_comings(comings):
        raise NoComings()
    marks = []
    for place, lot in enumerate(comings):
        met = [marks[other] for other in lot]
        if len(set(met)) < len(met):
            return False
        # All that hangs together by this place has its mark from now on.
        marks = [place if mark in met else mark for mark in marks] + [place]
    return True


def led(painter, comings):
    """Tell the colours that a painter tells for comings, or the first thing that it tells wrongly."""
    if not is_comings(comings):
        raise NoComings()
    colours = ()
    for place, lot in enumerate(comings):
        told = painter(comings[:place + 1], colours)
        if not _is_right(lot, colours, told):
            return "wrong", place, told
        colours += (told,)
    return "colours", colours


def _is_right(lot, colours, told):
    """Tell whether what is told is a colour that none of the places of a lot has."""
    return is_below(told, MOST_TOLD) and told not in [colours[place] for place in lot]


def first_painter(comings, colours):
    """Tell the least colour that none has to which the last place is tied."""
    return least_but([colours[place] for place in comings[-1]])


def forest_foe(painter, many):
    """Tell comings of a forest for which a painter needs so many colours, or tells what is wrong."""
    if not is_between(many, 1, MOST_FORCED):
        raise NoNumber()
    comings, colours = (), ()
    # Each group has places of unlike colours in unlike pieces; two groups share no piece.
    groups = []
    while len(set(colours)) < many:
        lot = _asked(groups, many)
        comings += (lot,)
        told = painter(comings, colours)
        if not _is_right(lot, colours, told):
            return "wrong", comings, told
        colours += (told,)
        groups = _gathered(_with_place(groups, len(colours) - 1), colours)
    return "forest", comings, colours


def _are_even(groups):
    """Tell whether the last two groups have as many places."""
    return len(groups) > 1 and len(groups[-1]) == len(groups[-2])


def _asked(groups, many):
    """Tell the lot of the next place: a group that it is tied to, or none where a new group is begun."""
    if _are_even(groups) or (groups and len(groups[-1]) == many - 1):
        return groups[-1]
    return ()


def _with_place(groups, place):
    """List the groups with one place more."""
    if not _are_even(groups):
        return groups + [(place,)]
    # It is tied to all places of the last group, whose colours are those of the group ahead: it has a new one.
    return groups[:-2] + [groups[-2] + (place,)]


def _gathered(groups, colours):
    """List the groups with even ones made one, as long as the last one has a colour that the one ahead lacks."""
    while _are_even(groups):
        held = [colours[place] for place in groups[-2]]
        fresh = [place for place in groups[-1] if colours[place] not in held]
        if not fresh:
            return groups
        groups = groups[:-2] + [groups[-2] + (fresh[0],)]
    return groups


def is_forced(painter, many, thing):
    """Tell whether a thing is comings of a forest that force so many colours, or that lead to what is wrong."""
    if not is_between(many, 1, MOST_FORCED):
        raise NoNumber()
    if not isinstance(thing, tuple) or len(thing) != 3:
        return False
    word, comings, told = thing
    if not isinstance(word, str) or not is_comings(comings):
        return False
    if len(comings) > 1 << (many - 1) or not is_forest(comings):
        return False
    if word == "wrong":
        return is_alike(led(painter, comings), ("wrong", len(comings) - 1, told))
    # Only integers are right colours, and only these can be counted.
    return word == "forest" and is_integers(told) and _is_enough(painter, many, comings, told)


def _is_enough(painter, many, comings, colours):
    """Tell whether a painter tells just these colours, and enough unlike ones among them."""
    return len(set(colours)) >= many and led(painter, comings) == ("colours", colours)


def least_colours(places):
    """Tell how few colours are enough for some painter for all forests of so many places."""
    if not is_between(places, 1, MOST_COMINGS):
        raise NoNumber()
    return places.bit_length()


def grown_lot(comings, place):
    """Tell the lot of places that a place of a forest needs for the colour that first_painter tells for it."""
    if not is_forest(comings):
        raise NoForest()
    if not is_below(place, len(comings)):
        raise NoPlace()
    colours = led(first_painter, comings)[1]
    grown = []
    for own, lot in enumerate(comings[:place + 1]):
        held = (own,)
        for colour in range(colours[own]):
            held += grown[min([other for other in lot if colours[other] == colour])]
        grown.append(tuple(sorted(held)))
    return grown[place]
