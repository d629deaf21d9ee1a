"""Paintings of a web, and which of them are good."""

from takenjoined.counts import numbers, worth
from takenjoined.errors import NoColours, TooMany
from takenjoined.kinds import is_below, is_colours

MOST_PAINTINGS = 20000


def is_painting(web, q, thing):
    """Tell whether a thing is a painting of a web with q colours."""
    if not is_colours(q):
        raise NoColours()
    if not isinstance(thing, tuple) or len(thing) != web.many:
        return False
    return all([is_below(colour, q) for colour in thing])


def is_good(web, q, thing):
    """Tell whether a thing is a painting with q colours, no tie having one colour at both its places."""
    return is_painting(web, q, thing) and all([thing[u] != thing[v] for u, v in web.ties])


def painted(web, q):
    """Tell how many good paintings with q colours there are."""
    if not is_colours(q):
        raise NoColours()
    return worth(numbers(web), q)


def paintings(web, q):
    """List the good paintings with q colours, ascending."""
    count = painted(web, q)
    if count > MOST_PAINTINGS:
        raise TooMany(MOST_PAINTINGS)
    # Nothing is begun in vain: without any good painting q may be too great to go through.
    begins = [()] if count else []
    for place in range(web.many):
        ahead = [u for u, v in web.ties if v == place]
        begins = [begin + (colour,) for begin in begins for colour in _let(begin, ahead, q)]
    return begins


def _let(begin, ahead, q):
    """List the colours that a place may have which is tied to those places ahead."""
    barred = [begin[place] for place in ahead]
    return [colour for colour in range(q) if colour not in barred]
