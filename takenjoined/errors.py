"""The errors of the package: each says by its name, and what it keeps, what was wrong."""


class PaintError(ValueError):
    """What all errors of this package are."""


class BadWeb(PaintError):
    """What a web is made of is wrong: part is "many", "ties" or the number of a tie."""

    def __init__(self, part):
        self.part = part


class BadMap(PaintError):
    """The turns of a map are wrong at a place, or at -1 as a whole."""

    def __init__(self, place):
        self.place = place


class BadText(PaintError):
    """A text is not written as it should be in a line, or is no text: line 0."""

    def __init__(self, line):
        self.line = line


class BadThrow(PaintError):
    """A throw is none, or there are not as many throws as places."""

    def __init__(self, index):
        self.index = index


class TooMany(PaintError):
    """There are more things than may be told."""

    def __init__(self, most):
        self.most = most


class NoName(PaintError):
    """Nothing is kept under a name."""

    def __init__(self, name):
        self.name = name


class NoWeights(PaintError):
    """A drawer told what are no weights when it was asked with a begin."""

    def __init__(self, begin):
        self.begin = begin


class NoTie(PaintError):
    """A thing is not the number of such a tie as is asked for."""

    def __init__(self):
        pass


class NoTies(PaintError):
    """A thing is not such a lot of ties' numbers as is asked for."""

    def __init__(self):
        pass


class NoPlace(PaintError):
    """A thing is not a place."""

    def __init__(self):
        pass


class NoOrder(PaintError):
    """A thing is not such an order of all places as is asked for."""

    def __init__(self):
        pass


class NoWay(PaintError):
    """A thing is not a way through all ties."""

    def __init__(self):
        pass


class NoColours(PaintError):
    """A thing is not such a number of colours as is asked for."""

    def __init__(self):
        pass


class NoColour(PaintError):
    """A thing is not such a colour as is asked for."""

    def __init__(self):
        pass


class NoNumbers(PaintError):
    """A thing is not such a tuple of integers as is asked for."""

    def __init__(self):
        pass


class NoNumber(PaintError):
    """A thing is not such a number as is asked for."""

    def __init__(self):
        pass


class NoSigning(PaintError):
    """A thing is not such a signing as is asked for."""

    def __init__(self):
        pass


class NoSource(PaintError):
    """A thing is not a source."""

    def __init__(self):
        pass


class NoWord(PaintError):
    """A thing is not one of the words that are asked for."""

    def __init__(self):
        pass


class NoPair(PaintError):
    """A thing is not a fitting pair."""

    def __init__(self):
        pass


class NoPainting(PaintError):
    """A thing is not such a painting as is asked for."""

    def __init__(self):
        pass


class NoComings(PaintError):
    """A thing is not a tuple of comings."""

    def __init__(self):
        pass


class NoForest(PaintError):
    """Comings have a ring among them."""

    def __init__(self):
        pass


class NoBegin(PaintError):
    """A thing is not such a begin of a painting as is asked for."""

    def __init__(self):
        pass


class NoIndex(PaintError):
    """A thing is not the index of a good painting."""

    def __init__(self):
        pass


class NoFrame(PaintError):
    """A thing is not a frame."""

    def __init__(self):
        pass


class NoFour(PaintError):
    """A thing is not such a tuple of four integers as is asked for."""

    def __init__(self):
        pass


class NoneGood(PaintError):
    """There is no good painting."""

    def __init__(self):
        pass


class NoLine(PaintError):
    """A thing is not a line that a desk knows."""

    def __init__(self):
        pass


class NoText(PaintError):
    """A thing is not a string."""

    def __init__(self):
        pass


class NothingDone(PaintError):
    """There is no deed to be taken back."""

    def __init__(self):
        pass


class Selftied(PaintError):
    """A web has a selftie."""

    def __init__(self):
        pass


class SamePlace(PaintError):
    """Two places that should be unlike are one."""

    def __init__(self):
        pass


class Apart(PaintError):
    """A web does not hang together."""

    def __init__(self):
        pass


class Full(PaintError):
    """What would be made has more than a web can hold."""

    def __init__(self):
        pass


class NotFlat(PaintError):
    """A map is not flat."""

    def __init__(self):
        pass
