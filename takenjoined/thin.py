"""Thin orders of a web's places, and the rows and paintings that they give."""

from takenjoined.errors import NoColours, NoNumber, NoOrder, NoPainting, Selftied
from takenjoined.exchanges import chain_of, exchange_of
from takenjoined.kinds import is_between, is_few_colours, is_lot, is_order
from takenjoined.paintings import is_good
from takenjoined.webs import has_selftie, neighbours

MOST_AHEAD = 6


def thinness(web):
    """Tell the least number by which some order is thin."""
    near = neighbours(web)
    return min([d for d in range(web.many) if not _thick(near, d + 1)])


def thin_order(web, d):
    """Tell the least order that is thin by a number, or None."""
    if not is_between(d, 0, MOST_AHEAD):
        raise NoNumber()
    near = neighbours(web)
    if not _goes_on(near, d, ()):
        return None
    order = ()
    for _ in range(web.many):
        left = [place for place in range(web.many) if place not in order]
        # The place itself has few enough neighbours ahead: else the order would not have gone on up to here.
        order += (min([place for place in left if _goes_on(near, d, order + (place,))]),)
    return order


def _goes_on(near, d, begin):
    """Tell whether the places left can stand behind a begin, none of them having too many neighbours ahead."""
    # Whatever may stand last is left out: without it the others have no more neighbours ahead than with it.
    left = [place for place in range(len(near)) if place not in begin]
    while left:
        ahead = left + list(begin)
        kept = [place for place in left if _many_of(near[place], ahead) > d]
        if kept == left:
            return False
        left = kept
    return True


def _many_of(places, others):
    """Tell how many places are among the others."""
    return len([place for place in places if place in others])


def _is_thin_row(near, d, row):
    """Tell whether each place of a row has few enough neighbours ahead of it."""
    return all([_many_of(near[place], row[:at]) <= d for at, place in enumerate(row)])


def is_thin(web, d, thing):
    """Tell whether a thing is an order that is thin by a number."""
    if not is_between(d, 0, MOST_AHEAD):
        raise NoNumber()
    return is_order(thing, web.many) and _is_thin_row(neighbours(web), d, thing)


def thick_lot(web, d):
    """Tell the greatest lot of places of which each has so many neighbours in the lot."""
    if not is_between(d, 0, MOST_AHEAD):
        raise NoNumber()
    return _thick(neighbours(web), d)


def _thick(near, d):
    """Tell the greatest thick lot by each place's neighbours."""
    lot = tuple(range(len(near)))
    while not _is_thick_lot(near, d, lot):
        lot = tuple([place for place in lot if _many_of(near[place], lot) >= d])
    return lot


def _is_thick_lot(near, d, lot):
    """Tell whether each place of a lot has so many neighbours in the lot."""
    return all([_many_of(near[place], lot) >= d for place in lot])


def is_thick(web, d, thing):
    """Tell whether a thing is a lot of places, not empty, of which each has so many neighbours in the lot."""
    if not is_between(d, 0, MOST_AHEAD):
        raise NoNumber()
    return is_lot(thing, web.many) and len(thing) > 0 and _is_thick_lot(neighbours(web), d, thing)


def first_fit(web, order):
    """Tell the painting that gives each place in an order the least number that no neighbour ahead of it has."""
    if not is_order(order, web.many):
        raise NoOrder()
    if has_selftie(web):
        raise Selftied()
    near = neighbours(web)
    given = {}
    for place in order:
        barred = [given[other] for other in near[place] if other in given]
        given[place] = least_but(barred)
    return tuple([given[place] for place in range(web.many)])


def least_but(barred):
    """Tell the least number that is not barred."""
    return min([number for number in range(len(barred) + 1) if number not in barred])


def thin_row(web, q, order, one, other):
    """Tell a row that leads from one good painting to the other one, by an order thin enough for q colours."""
    if not is_few_colours(q):
        raise NoColours()
    near = neighbours(web)
    if not is_order(order, web.many) or not _is_thin_row(near, q - 1, order):
        raise NoOrder()
    if not is_good(web, q, one) or not is_good(web, q, other):
        raise NoPainting()
    row = ()
    for at, place in enumerate(order):
        # Places that come later are left unpainted, with a colour that none is exchanged with.
        painting = tuple([colour if met in order[:at + 1] else -1 for met, colour in enumerate(one)])
        row = _row_with(near, q, painting, row, place, other[place])
    return row


def _row_with(near, q, painting, row, place, due):
    """Tell a row with one place more: it leads the places ahead as the given row does, this one to its due colour."""
    longer = ()
    for pair in row:
        if _joins_chains(near, painting, place, pair):
            third = (place, _third_colour(near, q, painting, place))
            longer += (third,)
            painting = exchange_of(near, painting, place, third[1])
        longer += (pair,)
        painting = exchange_of(near, painting, pair[0], pair[1])
    return longer if painting[place] == due else longer + ((place, due),)


def _joins_chains(near, painting, place, pair):
    """Tell whether a place is on the chain of an exchange, and has two neighbours there."""
    places = chain_of(near, painting, pair[0], pair[1])
    return place in places and _many_of(near[place], places) > 1


def _third_colour(near, q, painting, place):
    """Tell the least colour that neither a place nor any of its neighbours has."""
    barred = [painting[other] for other in near[place]] + [painting[place]]
    return min([colour for colour in range(q) if colour not in barred])
