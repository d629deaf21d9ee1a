"""Webs: places and the ties between them, and the webs that are made from webs."""

from takenjoined.errors import BadWeb, Full, NoOrder, NoPlace, NoTie
from takenjoined.kinds import is_below, is_between, is_order, is_pair

MOST_PLACES = 10
MOST_TIES = 16


class Web:
    """Places, numbered from 0 on, and ties (u, v) between them, u at most v."""

    def __init__(self, many, ties):
        if not is_between(many, 1, MOST_PLACES):
            raise BadWeb("many")
        if not isinstance(ties, tuple) or len(ties) > MOST_TIES:
            raise BadWeb("ties")
        for number, tie in enumerate(ties):
            if not _is_tie(tie, many):
                raise BadWeb(number)
        self.many = many
        self.ties = ties

    def __eq__(self, other):
        return isinstance(other, Web) and self.many == other.many and self.ties == other.ties


def _is_tie(thing, many):
    """Tell whether a thing is a pair of places of so many, the lesser one first."""
    return is_pair(thing) and is_below(thing[1], many) and is_between(thing[0], 0, thing[1])


def _called(ties, names):
    """Tell the ties behind one another between places that are called by new names."""
    return tuple([(min(names[u], names[v]), max(names[u], names[v])) for u, v in ties])


def _built(many, ties):
    """Build a web that may have become too great to be one."""
    if many > MOST_PLACES or len(ties) > MOST_TIES:
        raise Full()
    return Web(many, ties)


def taken(web, tie):
    """Tell the web without a tie."""
    if not is_below(tie, len(web.ties)):
        raise NoTie()
    return Web(web.many, web.ties[:tie] + web.ties[tie + 1:])


def joined(web, tie):
    """Tell the web without a tie whose two places have become one."""
    without = taken(web, tie)
    if not is_joining(web, tie):
        return without
    return made_one(without, web.ties[tie])


def made_one(web, pair):
    """Tell the web in which two unlike places, the lesser one first, are one."""
    return Web(web.many - 1, _called(web.ties, joined_names(web, pair)))


def is_joining(web, thing):
    """Tell whether a thing is the number of a tie that is no selftie."""
    return is_below(thing, len(web.ties)) and web.ties[thing][0] < web.ties[thing][1]


def joined_names(web, pair):
    """List for each place what it is called when two unlike places, the lesser one first, have become one."""
    u, v = pair
    names = [place if place < v else place - 1 for place in range(web.many)]
    names[v] = u
    return names


def has_selftie(web):
    """Tell whether some tie of a web is a selftie."""
    return any([u == v for u, v in web.ties])


def beside(one, other):
    """Tell the web of two webs that share nothing."""
    names = [one.many + place for place in range(other.many)]
    return _built(one.many + other.many, one.ties + _called(other.ties, names))


def glued(one, other, u, v):
    """Tell the web of two webs that share a place: u of the one, v of the other."""
    if not is_below(u, one.many) or not is_below(v, other.many):
        raise NoPlace()
    names = [one.many + place if place < v else one.many + place - 1 for place in range(other.many)]
    names[v] = u
    return _built(one.many + other.many - 1, one.ties + _called(other.ties, names))


def renamed(web, order):
    """Tell the web whose place p is called order[p]."""
    if not is_order(order, web.many):
        raise NoOrder()
    return Web(web.many, _called(web.ties, order))


def neighbours(web):
    """List for each place the lot of the other places to which it is tied."""
    near = []
    for place in range(web.many):
        ends = [u + v - place for u, v in web.ties if place in (u, v)]
        near.append(tuple([other for other in range(web.many) if other in ends and other != place]))
    return near
