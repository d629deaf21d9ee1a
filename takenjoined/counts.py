"""How many good paintings a web has for all numbers of colours."""

from takenjoined.errors import NoColours, NoNumbers
from takenjoined.kinds import is_integer, is_integers
from takenjoined.webs import Web, has_selftie, is_joining, joined, taken

MOST_NUMBERS = 64


def numbers(web):
    """Tell the numbers of which worth tells for all q how many good paintings with q colours there are."""
    # Alike ties ask the same of paintings; in one order more of the webs that are come to are the same.
    plain = Web(web.many, tuple(sorted(set(web.ties))))
    return paper(plain)[0][2]


def worth(numbers, q):
    """Tell the sum of all numbers, each times q to the power of its place."""
    if not is_integers(numbers) or len(numbers) > MOST_NUMBERS:
        raise NoNumbers()
    if not is_integer(q):
        raise NoColours()
    total = 0
    for number in reversed(numbers):
        total = total * q + number
    return total


def parted(one, other):
    """Tell the least q for which two webs have not as many good paintings, or None."""
    one_numbers, other_numbers = numbers(one), numbers(other)
    # A sum of such powers that is not 0 for all q is 0 for no more of them than its greatest power.
    for q in range(max(len(one_numbers), len(other_numbers))):
        if worth(one_numbers, q) != worth(other_numbers, q):
            return q
    return None


def fewest(web):
    """Tell the least q for which there is a good painting, or None."""
    if has_selftie(web):
        return None
    told = numbers(web)
    return min([q for q in range(web.many + 1) if worth(told, q) > 0])


def paper(web):
    """Tell one paper of a web's numbers: each web that is come to by its first ties, once."""
    told = {}
    triples = []
    for step in reversed(_steps(web)):
        tie = None if _is_end(step) else 0
        told[_key(step)] = _end_numbers(step) if tie is None else _told_by(step, tie, told)
        triples.append((step, tie, told[_key(step)]))
    return tuple(reversed(triples))


def _steps(web):
    """List a web and all that are come to by taking and joining first ties, those of most ties first."""
    steps = []
    level = [web]
    while level:
        steps.extend(level)
        further = [step for step in level if not _is_end(step)]
        level = _unlike([lesser for step in further for lesser in (taken(step, 0), joined(step, 0))])
    return steps


def _unlike(webs):
    """List the webs of a list, alike ones just once."""
    found = {}
    for web in webs:
        found[_key(web)] = web
    return list(found.values())


def _key(web):
    """Tell what webs that are equal have alike, and others not."""
    return (web.many, web.ties)


def _is_end(web):
    """Tell whether the numbers of a web are told without those of other webs."""
    return not web.ties or has_selftie(web)


def _end_numbers(web):
    """Tell the numbers of a web without ties, or with a selftie."""
    return (0,) * web.many + (0 if web.ties else 1,)


def _told_by(web, tie, told):
    """Tell the numbers of a web from those of the taken and the joined one."""
    less = told[_key(joined(web, tie))] + (0,)
    return tuple([own - other for own, other in zip(told[_key(taken(web, tie))], less)])


def is_paper(web, thing):
    """Tell whether a thing is a paper of a web's numbers."""
    if not isinstance(thing, tuple) or not thing or not all([_is_triple(part) for part in thing]):
        return False
    if thing[0][0] != web:
        return False
    # From the last triple on, so that what is kept of a web is always its first one of the later triples.
    later = {}
    for step, tie, own in reversed(thing):
        if not _holds(step, tie, own, later):
            return False
        later[_key(step)] = own
    return True


def _is_triple(thing):
    """Tell whether a thing is a Web, the number of a tie of it that is no selftie or None, and integers."""
    if not isinstance(thing, tuple) or len(thing) != 3 or not isinstance(thing[0], Web):
        return False
    if thing[1] is not None and not is_joining(thing[0], thing[1]):
        return False
    return is_integers(thing[2])


def _holds(step, tie, own, later):
    """Tell whether a triple's numbers are told as they should be, from those of later ones."""
    if tie is None:
        return _is_end(step) and own == _end_numbers(step)
    if _key(taken(step, tie)) not in later or _key(joined(step, tie)) not in later:
        return False
    return own == _told_by(step, tie, later)
