"""Maps: webs whose ties' ends stand around each place, their faces, opposites and closed lines."""

from takenjoined.errors import Apart, BadMap, Full, NoTies, NotFlat, Selftied
from takenjoined.kinds import is_integers
from takenjoined.rings import parts
from takenjoined.thin import first_fit, thin_order
from takenjoined.webs import MOST_PLACES, Web, has_selftie

MOST_AHEAD = 5
FEW_AHEAD = 4


class Map:
    """A web and, for each place, its ends as they stand around it: tie t has the ends 2 t and 2 t + 1."""

    def __init__(self, web, turns):
        if not isinstance(turns, tuple) or len(turns) != web.many:
            raise BadMap(-1)
        for place, turn in enumerate(turns):
            if not is_integers(turn) or sorted(turn) != _ends(web, place):
                raise BadMap(place)
        self.web = web
        self.turns = turns

    def __eq__(self, other):
        return isinstance(other, Map) and self.web == other.web and self.turns == other.turns


def _ends(web, place):
    """List the ends at a place, ascending."""
    owners = [owner for tie in web.ties for owner in tie]
    return [end for end, owner in enumerate(owners) if owner == place]


def _nexts(chart):
    """Tell for each end the next one around its place."""
    nexts = {}
    for turn in chart.turns:
        for end, behind in zip(turn, turn[1:] + turn[:1]):
            nexts[end] = behind
    return nexts


def _alone(chart):
    """List () for each place without ties."""
    return [() for turn in chart.turns if not turn]


def _rounds(steps):
    """List what is gone round by steps, each round from its least member on, ascending."""
    found = []
    met = []
    for first in range(len(steps)):
        members = ()
        member = first
        while member not in met:
            met.append(member)
            members += (member,)
            member = steps[member]
        if members:
            found.append(members)
    return found


def faces(chart):
    """List the faces, each as the ends that go round it from its least one on, ascending."""
    nexts = _nexts(chart)
    return _alone(chart) + _rounds([nexts[_other(end)] for end in range(len(nexts))])


def _other(end):
    """Tell the other end of an end's tie."""
    return end ^ 1


def _all_parts(chart):
    """List the lots of places that hang together by all ties."""
    return parts(chart.web, tuple(range(len(chart.web.ties))))


def is_flat(chart):
    """Tell whether a map can be drawn flat: places less ties and all faces are twice as many as parts."""
    return chart.web.many - len(chart.web.ties) + len(faces(chart)) == 2 * len(_all_parts(chart))


def opposite(chart):
    """Tell the map whose places are the faces of a flat map that hangs together."""
    if not is_flat(chart):
        raise NotFlat()
    if len(_all_parts(chart)) > 1:
        raise Apart()
    if not chart.web.ties:
        raise NoTies()
    rounds = faces(chart)
    if len(rounds) > MOST_PLACES:
        raise Full()
    return _map_of(rounds)


def _map_of(rounds):
    """Tell the map of which the faces of another one are the places."""
    face_of = {end: face for face, ends in enumerate(rounds) for end in ends}
    sides = [(face_of[2 * tie], face_of[2 * tie + 1]) for tie in range(len(face_of) // 2)]
    ties = tuple([(min(one, other), max(one, other)) for one, other in sides])
    # Where a tie is turned about the one end is called as the other one was.
    names = [_other(end) if sides[end // 2] != ties[end // 2] else end for end in range(len(face_of))]
    return Map(Web(len(rounds), ties), tuple([tuple([names[end] for end in ends]) for ends in rounds]))


def lines(chart):
    """List the lots of corners of all closed lines, ascending."""
    nexts = _nexts(chart)
    backs = {behind: end for end, behind in nexts.items()}
    rounds = _rounds([backs[_other(nexts[_other(corner)])] for corner in range(len(nexts))])
    # Two steps at a time each line is gone round twice: once each way, by every other corner.
    lots = [tuple(sorted(list(members) + [_other(corner) for corner in members])) for members in rounds]
    return _alone(chart) + sorted(set(lots))


def five(chart):
    """Tell a good painting of a flat map with five colours."""
    if not is_flat(chart):
        raise NotFlat()
    if has_selftie(chart.web):
        raise Selftied()
    # A flat map, each place of which has five neighbours or more, has twelve places: ten are always thin by 4.
    return first_fit(chart.web, thin_order(chart.web, FEW_AHEAD))


def light_order(chart):
    """Tell an order of a flat map's places that is thin by 5."""
    if not is_flat(chart):
        raise NotFlat()
    return thin_order(chart.web, MOST_AHEAD)
