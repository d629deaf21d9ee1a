"""What kind a thing is: the questions that judge arguments."""

MOST_COLOURS = 1000000000
FEW_COLOURS = 6
MOST_DIGITS = 9
DIGITS = "0123456789"


def is_integer(thing):
    """Tell whether a thing is an integer; a flag is none."""
    return isinstance(thing, int) and not isinstance(thing, bool)


def is_between(thing, least, most):
    """Tell whether a thing is an integer from the least to the most."""
    return is_integer(thing) and least <= thing <= most


def is_below(thing, bound):
    """Tell whether a thing is a number below the bound."""
    return is_integer(thing) and 0 <= thing < bound


def is_pair(thing):
    """Tell whether a thing is a tuple of two."""
    return isinstance(thing, tuple) and len(thing) == 2


def is_lot(thing, bound):
    """Tell whether a thing is an ascending tuple of unlike numbers below the bound."""
    if not isinstance(thing, tuple):
        return False
    least = 0
    for number in thing:
        if not is_between(number, least, bound - 1):
            return False
        least = number + 1
    return True


def is_order(thing, many):
    """Tell whether a thing is a tuple of all numbers below many, each once."""
    if not isinstance(thing, tuple) or len(thing) != many:
        return False
    # Only integers are sorted: other things may not be put in an order at all.
    return all([is_below(number, many) for number in thing]) and sorted(thing) == list(range(many))


def is_colours(thing):
    """Tell whether a thing is how many colours paintings may have."""
    return is_between(thing, 0, MOST_COLOURS)


def is_integers(thing):
    """Tell whether a thing is a tuple of integers."""
    return isinstance(thing, tuple) and all([is_integer(part) for part in thing])


def is_flags(thing):
    """Tell whether a thing is a tuple of flags."""
    return isinstance(thing, tuple) and all([isinstance(part, bool) for part in thing])


def is_few_colours(thing):
    """Tell whether a thing is how many colours there may be where colours are exchanged."""
    return is_between(thing, 1, FEW_COLOURS)


def is_numeral(thing):
    """Tell whether a thing is how a number is written: at most nine digits without a needless 0."""
    if not isinstance(thing, str) or not 1 <= len(thing) <= MOST_DIGITS:
        return False
    return all([sign in DIGITS for sign in thing]) and (thing == "0" or thing[0] != "0")


def is_alike(one, other):
    """Tell whether two things are equal, also in kind: flags and integers apart, through and through."""
    pairs = [(one, other)]
    while pairs:
        own, met = pairs.pop()
        if isinstance(own, bool) != isinstance(met, bool) or not own == met:
            return False
        # Both are of one kind, one length and with the same keys, for they are equal.
        if isinstance(own, (list, tuple)):
            pairs.extend(list(zip(own, met)))
        elif isinstance(own, dict):
            pairs.extend([(part, met[key]) for key, part in own.items()])
    return True
