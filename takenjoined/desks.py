"""Desks: webs that are kept under names, and done to and asked about by lines."""

from takenjoined.counts import fewest, numbers, parted
from takenjoined.errors import Full, NoLine, NoName, NoPlace, NoText, NothingDone, PaintError
from takenjoined.kinds import is_below, is_numeral
from takenjoined.paintings import painted
from takenjoined.signings import rising
from takenjoined.tables import frames, table_at
from takenjoined.texts import web_text
from takenjoined.thin import thinness
from takenjoined.webs import MOST_TIES, Web, joined, taken

# What stands behind each word: kept is a name under which a web is kept, new one under which it will be.
FORMS = {
    "web": ("new", "number"),
    "copy": ("kept", "new"),
    "tie": ("kept", "number", "number"),
    "take": ("kept", "number"),
    "join": ("kept", "number"),
    "drop": ("kept",),
    "undo": (),
    "painted": ("kept", "number"),
    "fewest": ("kept",),
    "parted": ("kept", "kept"),
    "numbers": ("kept",),
    "rising": ("kept",),
    "frames": ("kept",),
    "at": ("kept", "integer", "integer"),
    "thin": ("kept",),
    "show": ("kept",),
}
DEEDS = ("web", "copy", "tie", "take", "join", "drop")
LETTERS = "abcdefghijklmnopqrstuvwxyz"
MOST_LETTERS = 8


class Desk:
    """Webs under names; each deed can be taken back."""

    def __init__(self):
        self.webs = {}
        # Of each deed its line, the name that it was done to, and the web that this had ahead of it, or None.
        self.deeds = []

    def tell(self, line):
        """Do a line, or answer it; where an error is raised nothing is changed."""
        word, things = _read(line)
        names = [thing for form, thing in zip(FORMS[word], things) if form == "kept"]
        for name in names:
            if name not in self.webs:
                raise NoName(name)
        webs = [self.webs[name] for name in names]
        if word == "undo":
            self._undo()
        elif word in DEEDS:
            self._do(line, _name_done_to(word, things), _made(word, webs, things))
        else:
            return _answer(word, webs, things)
        return "ok"

    def _do(self, line, name, web):
        """Keep a web under a name, or None if nothing is to be kept there."""
        self.deeds.append((line, name, self.webs.get(name)))
        self._put(name, web)

    def _undo(self):
        """Take the last deed back."""
        if not self.deeds:
            raise NothingDone()
        _, name, elder = self.deeds.pop()
        self._put(name, elder)

    def _put(self, name, web):
        """Let a web, or nothing for None, be kept under a name."""
        if web is None:
            del self.webs[name]
        else:
            self.webs[name] = web

    def journal(self):
        """Tell the lines of all deeds done and not taken back."""
        return "".join([line + "\n" for line, name, elder in self.deeds])


def _read(line):
    """Tell the word of a line, and the names and integers behind it."""
    if not isinstance(line, str):
        raise NoLine()
    word, *parts = line.split(" ")
    if word not in FORMS or len(parts) != len(FORMS[word]):
        raise NoLine()
    if not all([_is_part(form, part) for form, part in zip(FORMS[word], parts)]):
        raise NoLine()
    return word, [part if form in ("kept", "new") else int(part) for form, part in zip(FORMS[word], parts)]


def _is_part(form, part):
    """Tell whether a part of a line has a form."""
    if form == "integer" and part[:1] == "-":
        return is_numeral(part[1:]) and part != "-0"
    if form in ("number", "integer"):
        return is_numeral(part)
    return 1 <= len(part) <= MOST_LETTERS and all([sign in LETTERS for sign in part])


def _name_done_to(word, things):
    """Tell the name under which a deed changes what is kept."""
    return things[1] if word == "copy" else things[0]


def _made(word, webs, things):
    """Tell the web that a deed makes, or None if it makes none."""
    if word == "web":
        return Web(things[1], ())
    if word == "copy":
        return webs[0]
    if word == "tie":
        return _tied(webs[0], things[1], things[2])
    if word == "take":
        return taken(webs[0], things[1])
    if word == "join":
        return joined(webs[0], things[1])
    return None


def _tied(web, u, v):
    """Tell a web with a tie more."""
    if not is_below(u, web.many) or not is_below(v, web.many):
        raise NoPlace()
    if len(web.ties) == MOST_TIES:
        raise Full()
    return Web(web.many, web.ties + ((min(u, v), max(u, v)),))


def _answer(word, webs, things):
    """Tell what a question asks for, as a string."""
    web = webs[0]
    if word == "painted":
        return str(painted(web, things[1]))
    if word == "fewest":
        return _number_or_none(fewest(web))
    if word == "parted":
        return _number_or_none(parted(web, webs[1]))
    if word == "numbers":
        return " ".join([str(number) for number in numbers(web)])
    if word == "rising":
        return str(len(rising(web)))
    if word == "frames":
        return str(len(frames(web)))
    if word == "at":
        return str(table_at(web, things[1], things[2]))
    if word == "thin":
        return str(thinness(web))
    return web_text(web).replace("\n", "|")


def _number_or_none(told):
    """Tell a number as a string, or none."""
    return "none" if told is None else str(told)


def recovered(text):
    """Tell a desk on which the closed lines of a text are done up to the first that is no deed, and their signs."""
    if not isinstance(text, str):
        raise NoText()
    desk = Desk()
    many = 0
    for line in text.split("\n")[:-1]:
        if line.split(" ")[0] not in DEEDS or not _is_done(desk, line):
            return desk, many
        many += len(line) + 1
    return desk, many


def _is_done(desk, line):
    """Do a line on a desk, and tell whether it raised nothing."""
    try:
        desk.tell(line)
    except PaintError:
        return False
    return True
