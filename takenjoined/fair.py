"""How many good paintings begin alike, and drawers that paint place by place by weights."""

from math import gcd

from takenjoined.errors import (
    BadThrow, NoBegin, NoColours, NoIndex, NoneGood, NoPainting, NoPlace, NoWeights, SamePlace, TooMany,
)
from takenjoined.kinds import is_below, is_few_colours, is_pair
from takenjoined.paintings import is_good, is_painting
from takenjoined.webs import made_one

MOST_BEGINS = 3000
MOST_WEIGHT = 1000000000


class Tally:
    """How many good paintings of a web with q colours go on from each begin."""

    def __init__(self, web, q):
        if not is_few_colours(q):
            raise NoColours()
        self.web = web
        self.q = q
        self.goings = _goings(web, q)

    def going_on(self, begin):
        """Tell how many good paintings begin so."""
        if any([begin[u] == begin[v] for u, v in self.web.ties if v < len(begin)]):
            return 0
        return self.goings[_form(self.web, self.q, begin)]

    def shares_at(self, begin):
        """Tell for each colour how many good paintings begin so and with it at the next place."""
        return tuple([self.going_on(begin + (colour,)) for colour in range(self.q)])


def _goings(web, q):
    """Tell for the form of each begin without a tie of one colour how many good paintings go on from it."""
    levels = [[()]]
    for _ in range(web.many):
        further = [longer for begin in levels[-1] for longer in _longer(web, q, begin)]
        levels.append(_unlike(web, q, further))
    goings = {_form(web, q, whole): 1 for whole in levels[-1]}
    for level in reversed(levels[:-1]):
        for begin in level:
            goings[_form(web, q, begin)] = sum([goings[_form(web, q, longer)] for longer in _longer(web, q, begin)])
    return goings


def _form(web, q, begin):
    """Tell what begins have alike from which as many go on: their length, and the places that each colour bars."""
    bars = [0] * q
    for u, v in web.ties:
        if u < len(begin) <= v:
            bars[begin[u]] |= 1 << v
    # Which colour it is that bars some places does not matter.
    return (len(begin),) + tuple(sorted(bars))


def _unlike(web, q, begins):
    """List one begin of each form."""
    found = {}
    for begin in begins:
        found[_form(web, q, begin)] = begin
    return list(found.values())


def _longer(web, q, begin):
    """List the begins with one colour more, without a tie of one colour at its place."""
    place = len(begin)
    ahead = [u for u, v in web.ties if v == place]
    longer = [begin + (colour,) for colour in range(q)]
    return [more for more in longer if more[place] not in [more[u] for u in ahead]]


def _is_begin(thing, q, most):
    """Tell whether a thing is a tuple of at most so many colours below q."""
    return isinstance(thing, tuple) and len(thing) <= most and all([is_below(colour, q) for colour in thing])


def many_on(web, q, begin):
    """Tell how many good paintings with q colours begin so."""
    tally = Tally(web, q)
    if not _is_begin(begin, q, web.many):
        raise NoBegin()
    return tally.going_on(begin)


def shares(web, q, begin):
    """Tell for each colour how many good paintings begin so and with it at the next place."""
    tally = Tally(web, q)
    if not _is_begin(begin, q, web.many - 1):
        raise NoBegin()
    return tally.shares_at(begin)


def painting_at(web, q, index):
    """Tell the good painting with an index among all, ascending."""
    tally = Tally(web, q)
    if not is_below(index, tally.going_on(())):
        raise NoIndex()
    return _painting_at(tally, index)


def _painting_at(tally, index):
    """Tell the good painting with an index that there is."""
    begin = ()
    for _ in range(tally.web.many):
        colour, index = _thrown(tally.shares_at(begin), index)
        begin += (colour,)
    return begin


def _thrown(weights, throw):
    """Tell the least colour with which the weights up to it add up to more than a throw, and what is left of it."""
    colour = 0
    while weights[colour] <= throw:
        throw -= weights[colour]
        colour += 1
    return colour, throw


def index_of(web, q, painting):
    """Tell the index of a good painting among all, ascending."""
    tally = Tally(web, q)
    if not is_good(web, q, painting):
        raise NoPainting()
    return sum([sum(tally.shares_at(painting[:place])[:colour]) for place, colour in enumerate(painting)])


def _weights(q, drawer, begin):
    """Tell the weights that a drawer tells for a begin."""
    told = drawer(begin)
    if not isinstance(told, tuple) or len(told) != q:
        raise NoWeights(begin)
    if not all([is_below(weight, MOST_WEIGHT) for weight in told]) or not any(told):
        raise NoWeights(begin)
    return told


def _lowest(top, bottom):
    """Tell a fraction in lowest terms."""
    shared = gcd(top, bottom)
    return top // shared, bottom // shared


def chance(web, q, drawer, painting):
    """Tell the chance with which a drawer paints a painting, good or not."""
    if not is_few_colours(q):
        raise NoColours()
    if not is_painting(web, q, painting):
        raise NoPainting()
    return _chance(q, drawer, painting)


def _chance(q, drawer, painting):
    """Tell the chance of a painting, with no begin behind a weight 0 being asked."""
    top, bottom = 1, 1
    for place, colour in enumerate(painting):
        if top > 0:
            weights = _weights(q, drawer, painting[:place])
            top *= weights[colour]
            bottom *= sum(weights)
    return _lowest(top, bottom)


def fair_drawer(web, q):
    """Tell the drawer whose weights are the shares."""
    tally = _tally_of_some(web, q)

    def drawer(begin):
        """Tell the shares of a begin, or the same weight for each colour where nothing goes on."""
        told = tally.shares_at(begin)
        return told if any(told) else (1,) * q

    return drawer


def _tally_of_some(web, q):
    """Tell the tally of a web and q colours with which there is some good painting."""
    tally = Tally(web, q)
    if tally.going_on(()) == 0:
        raise NoneGood()
    return tally


def _good_begins(tally):
    """List the begins of good paintings below the whole, those of fewest colours first, then ascending."""
    begins = []
    level = [()]
    for _ in range(tally.web.many):
        begins.extend(level)
        if len(begins) > MOST_BEGINS:
            raise TooMany(MOST_BEGINS)
        level = [begin + (colour,) for begin in level for colour, share in enumerate(tally.shares_at(begin)) if share]
    return begins


def first_unfair(web, q, drawer):
    """Tell the first begin of a good painting at which weights do not stand to one another as shares do, or None."""
    return _first_unfair(_tally_of_some(web, q), drawer)


def _first_unfair(tally, drawer):
    """Tell the first begin at which a drawer is unfair, or None."""
    for begin in _good_begins(tally):
        weights = _weights(tally.q, drawer, begin)
        due = tally.shares_at(begin)
        if not all([own * sum(due) == share * sum(weights) for own, share in zip(weights, due)]):
            return begin
    return None


def unfair(web, q, drawer):
    """Tell None of a fair drawer, else a good painting and one that is drawn unlike it."""
    tally = _tally_of_some(web, q)
    begin = _first_unfair(tally, drawer)
    if begin is None:
        return None
    often = _followed(tally, drawer, begin, 1)
    if not is_good(web, q, often):
        return _painting_at(tally, 0), often
    return often, _followed(tally, drawer, begin, -1)


def _followed(tally, drawer, begin, sign):
    """Tell a painting behind the first unfair begin that is drawn too often for sign 1, too seldom for sign -1."""
    # Due to a begin is its part of all good paintings, and up to the first unfair one just this comes to each.
    whole = tally.going_on(())
    top, bottom = tally.going_on(begin), whole
    while len(begin) < tally.web.many:
        # What is not drawn at all is not asked about: all colours are drawn alike, each with no chance.
        weights = _weights(tally.q, drawer, begin) if top else (1,) * tally.q
        bottom *= sum(weights)
        due = tally.shares_at(begin)
        over = [sign * (top * own * whole - share * bottom) for own, share in zip(weights, due)]
        colour = min([each for each, part in enumerate(over) if part > 0])
        top *= weights[colour]
        begin += (colour,)
    return begin


def is_unfair(web, q, drawer, thing):
    """Tell whether a thing is a pair that shows a drawer to be unfair: a good painting and one drawn unlike it."""
    _tally_of_some(web, q)
    if not is_pair(thing) or not is_good(web, q, thing[0]) or not is_painting(web, q, thing[1]):
        return False
    one, other = [_chance(q, drawer, painting) for painting in thing]
    return one != other if is_good(web, q, thing[1]) else other[0] > 0


def drawn(web, q, drawer, throws):
    """Tell the painting that a drawer paints by throws."""
    if not is_few_colours(q):
        raise NoColours()
    if not isinstance(throws, tuple) or len(throws) != web.many:
        raise BadThrow(web.many)
    begin = ()
    for place, throw in enumerate(throws):
        weights = _weights(q, drawer, begin)
        if not is_below(throw, sum(weights)):
            raise BadThrow(place)
        begin += (_thrown(weights, throw)[0],)
    return begin


def alike_chance(web, q, one, other):
    """Tell the chance that a fair drawer paints two places alike."""
    tally = Tally(web, q)
    if not is_below(one, web.many) or not is_below(other, web.many):
        raise NoPlace()
    if one == other:
        raise SamePlace()
    many = tally.going_on(())
    if many == 0:
        raise NoneGood()
    alike = Tally(made_one(web, (min(one, other), max(one, other))), q)
    return _lowest(alike.going_on(()), many)
