"""Signings: which way each tie of a web goes, and the paintings that go with them."""

from takenjoined.counts import numbers, worth
from takenjoined.errors import NoColours, NoPair, NoSigning, NoTie, NoWord, TooMany
from takenjoined.kinds import is_colours, is_flags, is_pair
from takenjoined.paintings import is_painting
from takenjoined.webs import is_joining, joined, joined_names, taken

MOST_PAIRS = 20000
WORDS = ("taken", "joined")


def is_signing(web, thing):
    """Tell whether a thing is a signing of a web."""
    return is_flags(thing) and len(thing) == len(web.ties)


def is_rising(web, thing):
    """Tell whether a thing is a signing of a web that has no round."""
    return is_signing(web, thing) and round_of(web, thing) is None


def _goings(web, signing):
    """List for each tie the place that it goes from and the one that it goes to."""
    return [(u, v) if flag else (v, u) for (u, v), flag in zip(web.ties, signing)]


def round_of(web, signing):
    """Tell the ties of a round, in the order in which they are gone through, or None."""
    if not is_signing(web, signing):
        raise NoSigning()
    goings = _goings(web, signing)
    left = _never_sources(web.many, goings)
    return _round_behind(goings, left) if left else None


def _never_sources(many, goings):
    """List the places that do not become sources, however often sources are left out."""
    left = list(range(many))
    while True:
        kept = [place for place in left if any([ahead in left and to == place for ahead, to in goings])]
        if kept == left:
            return left
        left = kept


def _round_behind(goings, left):
    """Tell a round, to each of the places left going a tie from one of them."""
    place = left[0]
    met = []
    back = []
    while place not in met:
        met.append(place)
        tie = min([number for number, (ahead, to) in enumerate(goings) if ahead in left and to == place])
        back.append(tie)
        place = goings[tie][0]
    return tuple(reversed(back[met.index(place):]))


def rising(web):
    """List all signings without rounds, ascending."""
    # Beside a signing of the first ties stands, for each place, what it leads to, as bits.
    begins = [((), [1 << place for place in range(web.many)])]
    for u, v in web.ties:
        begins = [longer for begin in begins for longer in _longer(begin, u, v)]
    return [signing for signing, _ in begins]


def _longer(begin, u, v):
    """List a signing of the first ties that goes on with a tie one way and the other way, if that is no round."""
    signing, reached = begin
    longer = []
    for flag in (False, True):
        ahead, to = (u, v) if flag else (v, u)
        if not reached[to] & (1 << ahead):
            further = [bits | reached[to] if bits & (1 << ahead) else bits for bits in reached]
            longer.append((signing + (flag,), further))
    return longer


def sources(web, signing):
    """Tell the lot of places to which no tie goes."""
    if not is_signing(web, signing):
        raise NoSigning()
    gone_to = [to for _, to in _goings(web, signing)]
    return tuple([place for place in range(web.many) if place not in gone_to])


def fitting(web, q):
    """List the pairs of a signing and a painting that fit for q, ascending."""
    if fits(web, q) > MOST_PAIRS:
        raise TooMany(MOST_PAIRS)
    return [(signing, painting) for signing in rising(web) for painting in _climbing(web, q, signing)]


def _climbing(web, q, signing):
    """List the paintings of which each tie goes from a colour to the same one or a greater one, ascending."""
    goings = _goings(web, signing)
    begins = [()]
    for place in range(web.many):
        below = [ahead for ahead, to in goings if to == place and ahead < place]
        above = [to for ahead, to in goings if ahead == place and to < place]
        begins = [begin + (colour,) for begin in begins for colour in _between(begin, below, above, q)]
    return begins


def _between(begin, below, above, q):
    """List the colours that are not less than those of places below, and not greater than those of places above."""
    least = max([begin[place] for place in below], default=0)
    most = min([begin[place] for place in above], default=q - 1)
    return list(range(least, most + 1))


def fits(web, q):
    """Tell how many pairs fit for q."""
    if not is_colours(q):
        raise NoColours()
    return abs(worth(numbers(web), -q))


def is_fitting(web, q, thing):
    """Tell whether a thing is a pair of a signing and a painting that fits for q."""
    if not is_colours(q):
        raise NoColours()
    if not is_pair(thing) or not is_rising(web, thing[0]) or not is_painting(web, q, thing[1]):
        return False
    signing, painting = thing
    return all([painting[ahead] <= painting[to] for ahead, to in _goings(web, signing)])


def split(web, tie, q, pair):
    """Lead a fitting pair of a web to one of the taken or of the joined web."""
    if not is_joining(web, tie):
        raise NoTie()
    if not is_colours(q):
        raise NoColours()
    if not is_fitting(web, q, pair):
        raise NoPair()
    signing, painting = pair
    u, v = web.ties[tie]
    without = signing[:tie] + signing[tie + 1:]
    if painting[u] != painting[v] or signing[tie] or not is_rising(web, _put(without, tie, True)):
        return "taken", (without, painting)
    return "joined", (_called_signing(web, tie, without), painting[:v] + painting[v + 1:])


def merged(web, tie, q, word, pair):
    """Tell the fitting pair of a web that is led to this one of the taken or of the joined web."""
    if not is_joining(web, tie):
        raise NoTie()
    if not is_colours(q):
        raise NoColours()
    if not isinstance(word, str) or word not in WORDS:
        raise NoWord()
    lesser = taken(web, tie) if word == "taken" else joined(web, tie)
    if not is_fitting(lesser, q, pair):
        raise NoPair()
    signing, painting = pair
    u, v = web.ties[tie]
    if word == "joined":
        return _put(_called_signing(web, tie, signing), tie, False), _put(painting, v, painting[u])
    along = _put(signing, tie, True)
    if painting[u] <= painting[v] and is_rising(web, along):
        return along, painting
    return _put(signing, tie, False), painting


def _put(row, at, thing):
    """Tell the tuple with one thing more."""
    return row[:at] + (thing,) + row[at:]


def _called_signing(web, tie, signing):
    """Tell the signing of the other ties when a tie's places become one, or when they become two again."""
    names = joined_names(web, web.ties[tie])
    others = web.ties[:tie] + web.ties[tie + 1:]
    return tuple([flag != (names[u] > names[v]) for (u, v), flag in zip(others, signing)])
