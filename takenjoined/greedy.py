"""Greedy paintings, and what painters need by all orders of a web's places."""

from itertools import permutations

from takenjoined.coming import comings_of, led
from takenjoined.errors import NoNumber, NoPainting, Selftied, TooMany
from takenjoined.kinds import is_between
from takenjoined.paintings import is_good, is_painting
from takenjoined.webs import has_selftie, neighbours

MOST_COLOURED = 6
MOST_FITTED = 10
MOST_ORDERED = 7


def greedy(web, many):
    """Tell a good greedy painting in which just the numbers below many come, or None."""
    _judge(web, many)
    firsts = _firsts(web)
    left = len(firsts) - 1
    if many not in firsts[left]:
        return None
    colours = [0] * web.many
    for colour in range(many):
        lot = firsts[left][many - colour]
        for place in range(web.many):
            if lot & (1 << place):
                colours[place] = colour
        left -= lot
    return tuple(colours)


def _judge(web, many):
    """Raise the error of what is no number of colours, or of a web that has no good painting."""
    if not is_between(many, 1, MOST_COLOURED):
        raise NoNumber()
    if has_selftie(web):
        raise Selftied()


def _firsts(web):
    """List for each lot of places, as bits, by how many colours it can be painted greedily, and a first colour's lot.

    The places of the least colour are a lot without a tie in it, to which each other place is tied; without them the
    others are painted greedily, too.
    """
    reached = _reached(web)
    firsts = [{0: 0}]
    for left in range(1, len(reached)):
        found = {}
        lot = left
        while lot:
            if not reached[lot] & lot and (reached[lot] | lot) & left == left:
                found.update({many + 1: lot for many in firsts[left - lot]})
            lot = (lot - 1) & left
        firsts.append(found)
    return firsts


def _reached(web):
    """List for each lot of places, as bits, all their neighbours."""
    reached = [0]
    for places in neighbours(web):
        bits = sum([1 << place for place in places])
        reached = reached + [others | bits for others in reached]
    return reached


def is_greedy(web, many, thing):
    """Tell whether a thing is a good greedy painting in which just the numbers below many come."""
    _judge(web, many)
    return is_good(web, many, thing) and len(set(thing)) == many and _is_greedy(web, thing)


def _is_greedy(web, painting):
    """Tell whether each place has neighbours of all lesser numbers."""
    return all([_has_lesser(places, painting, own) for places, own in zip(neighbours(web), painting)])


def _has_lesser(places, painting, own):
    """Tell whether some of these places has each number below a place's own one."""
    met = [painting[place] for place in places]
    return all([number in met for number in range(own)])


def order_for(web, painting):
    """Tell the least order by which first_fit tells a painting, or None."""
    if has_selftie(web):
        raise Selftied()
    if not is_painting(web, MOST_FITTED, painting):
        raise NoPainting()
    if not is_good(web, MOST_FITTED, painting) or not _is_greedy(web, painting):
        return None
    near = neighbours(web)
    order = ()
    for _ in range(web.many):
        left = [place for place in range(web.many) if place not in order]
        # What may stand here once may stand here ever after: no choice leads to where nothing goes on.
        fit = [place for place in left if _has_lesser(_both(near[place], order), painting, painting[place])]
        order += (fit[0],)
    return order


def _both(places, others):
    """List the places that are among the others, too."""
    return [place for place in places if place in others]


def most_by_orders(web):
    """Tell the greatest number of colours that first_fit needs by some order."""
    return max(_needed(web))


def least_by_orders(web):
    """Tell the least number of colours that first_fit needs by some order."""
    return min(_needed(web))


def _needed(web):
    """List the numbers of colours that first_fit needs by some order: those of good greedy paintings."""
    if has_selftie(web):
        raise Selftied()
    return list(_firsts(web)[-1])


def worst_order(web, painter):
    """Tell the first order by which a painter tells what is wrong, or needs the most colours, and what it tells."""
    if web.many > MOST_ORDERED:
        raise TooMany(MOST_ORDERED)
    worst = None
    most = 0
    for order in permutations(range(web.many)):
        what = led(painter, comings_of(web, order))
        if what[0] == "wrong":
            return order, what
        if len(set(what[1])) > most:
            most = len(set(what[1]))
            worst = order, what
    return worst
