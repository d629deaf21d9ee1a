"""Webs, maps and signings as texts, and read from texts."""

from takenjoined.errors import BadText, NoSigning
from takenjoined.kinds import is_flags, is_numeral
from takenjoined.maps import Map
from takenjoined.webs import Web

WEB_WORDS = ("web", "tie")
MAP_WORDS = ("web", "tie", "at")
NUMBERS = {"web": 1, "tie": 2}


def web_text(web):
    """Tell the lines of a web: how many places it has, and its ties."""
    return _line("web", (web.many,)) + "".join([_line("tie", tie) for tie in web.ties])


def map_text(chart):
    """Tell the lines of a map: those of its web, and the ends of each place."""
    return web_text(chart.web) + "".join([_line("at", turn) for turn in chart.turns])


def _line(word, numbers):
    """Tell the line of a word and numbers."""
    return " ".join([word] + [str(number) for number in numbers]) + "\n"


def read_web(text):
    """Read a web's text."""
    return _web_of(_rows(text, WEB_WORDS))


def read_map(text):
    """Read a map's text."""
    rows = _rows(text, MAP_WORDS)
    return Map(_web_of(rows), _numbers_behind(rows, "at"))


def _web_of(rows):
    """Tell the web of which a text's rows speak."""
    return Web(rows[0][1][0], _numbers_behind(rows, "tie"))


def _numbers_behind(rows, word):
    """Tell the tuple of the numbers of each row with this word."""
    return tuple([numbers for own, numbers in rows if own == word])


def _rows(text, words):
    """List for each line of a text its word and its numbers; the words stand one behind another as they are given."""
    if not isinstance(text, str):
        raise BadText(0)
    *closed, rest = text.split("\n")
    rows = []
    for line in closed:
        row = _row(line)
        if not _is_in_place(row, rows, words):
            raise BadText(len(rows) + 1)
        rows.append(row)
    if rest or not rows:
        raise BadText(len(rows) + 1)
    return rows


def _row(line):
    """Tell the word of a line and the numbers behind it, or None instead of these where they are no numbers."""
    word, *numerals = line.split(" ")
    if not all([is_numeral(numeral) for numeral in numerals]):
        return word, None
    return word, tuple([int(numeral) for numeral in numerals])


def _is_in_place(row, rows, words):
    """Tell whether a row can stand behind these rows."""
    word, numbers = row
    if word not in words or numbers is None or len(numbers) != NUMBERS.get(word, len(numbers)):
        return False
    if word == "web" or not rows:
        return word == "web" and not rows
    return words.index(word) >= words.index(rows[-1][0])


def signing_text(signing):
    """Tell a signing as signs, + for True and - for False."""
    if not is_flags(signing):
        raise NoSigning()
    return "".join(["+" if flag else "-" for flag in signing])


def read_signing(text):
    """Read a signing's text."""
    if not isinstance(text, str):
        raise BadText(0)
    if not all([sign in "+-" for sign in text]):
        raise BadText(1)
    return tuple([sign == "+" for sign in text])
