"""Laws by taking and joining: what a function that obeys them tells, and where another one breaks them."""

from takenjoined.errors import NoFour, NoNumber
from takenjoined.kinds import is_between, is_integer
from takenjoined.rings import bridges
from takenjoined.tables import full_rank, power, table
from takenjoined.webs import Web, is_joining, joined, taken

MOST_OF_FOUR = 9
MOST_SMALL = 4


def _is_four(thing):
    """Tell whether a thing is a tuple of four integers that are not too great."""
    if not isinstance(thing, tuple) or len(thing) != 4:
        return False
    return all([is_between(part, -MOST_OF_FOUR, MOST_OF_FOUR) for part in thing])


def law_value(web, four):
    """Tell what each function that obeys the laws of a four tells for a web."""
    if not _is_four(four):
        raise NoFour()
    a, b, x, y = four
    lacks = full_rank(web)
    spares = len(web.ties) - lacks
    value = 0
    for (i, j), many in table(web).items():
        value += many * power(x, i) * power(y, j) * power(a, spares - j) * power(b, lacks - i)
    return value


def first_break(function, four, places, most):
    """Tell the first small web at which a function does not obey, its tie, what is told and what is due, or None."""
    if not _is_four(four):
        raise NoFour()
    if not is_between(places, 1, MOST_SMALL) or not is_between(most, 0, MOST_SMALL):
        raise NoNumber()
    # What a web's taken and joined ones are told stands here already: they are small webs ahead of it.
    values = {}
    for web in _small_webs(places, most):
        told = function(web)
        for tie, due in enumerate(_dues(web, four, values)):
            if not is_integer(told) or told != due:
                return web, tie if web.ties else -1, told, due
        values[_key(web)] = told
    return None


def _small_webs(places, most):
    """List the small webs: by places, then by how many ties, then by their ties."""
    webs = []
    for many in range(1, places + 1):
        pairs = [(u, v) for u in range(many) for v in range(u, many)]
        rows = [()]
        for _ in range(most + 1):
            webs.extend([Web(many, ties) for ties in rows])
            rows = [ties + (pair,) for ties in rows for pair in pairs if not ties or pair >= ties[-1]]
    return webs


def _key(web):
    """Tell what webs have alike whose places are as many and whose ties, put ascending, are alike."""
    return (web.many, tuple(sorted(web.ties)))


def _dues(web, four, values):
    """List what should be told for a web by each of its ties; without ties one thing."""
    if not web.ties:
        return [1]
    a, b, x, y = four
    held = bridges(web)
    dues = []
    for tie in range(len(web.ties)):
        less = values[_key(taken(web, tie))]
        one = values[_key(joined(web, tie))]
        if not is_joining(web, tie):
            dues.append(y * less)
        else:
            dues.append(x * one if tie in held else a * less + b * one)
    return dues
