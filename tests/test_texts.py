"""Point [11.1]: webs, maps and signings as texts, and read from texts."""

from itertools import product
from re import fullmatch

from takenjoined.errors import BadMap, BadText, BadWeb, NoSigning
from takenjoined.maps import Map
from takenjoined.texts import map_text, read_map, read_signing, read_web, signing_text, web_text
from takenjoined.webs import Web
from tests.charts import flat_maps, small_maps
from tests.things import Judging, crowded, form, nested, no_integer, odd_things, otherwise, small_webs, triangle

NUMBER = "(0|[1-9][0-9]{0,8})"
NO_STRINGS = [thing for thing in odd_things() + [0, 1, (), b"web 1\n", ("web 1\n",)] if not isinstance(thing, str)]


def sound_read(text, with_places):
    """Tell what a text leads to by the document's words: the error and what it keeps, or the thing."""
    *closed, rest = text.split("\n")
    ahead = "web"
    ties, turns, many = [], [], None
    for number, line in enumerate(closed, 1):
        if ahead == "web":
            right = fullmatch("web " + NUMBER, line)
            many = line[4:]
            ahead = "tie"
        elif ahead == "tie" and fullmatch(f"tie {NUMBER} {NUMBER}", line):
            right = True
            ties.append(tuple(int(word) for word in line.split()[1:]))
        else:
            right = with_places and fullmatch(f"at( {NUMBER})*", line)
            turns.append(tuple(int(word) for word in line.split()[1:]) if right else ())
            ahead = "at"
        if not right:
            return (BadText, number)
    if rest or not closed:
        return (BadText, len(closed) + 1)
    try:
        web = Web(int(many), tuple(ties))
        return Map(web, tuple(turns)) if with_places else web
    except BadWeb as error:
        return (BadWeb, error.part)
    except BadMap as error:
        return (BadMap, error.place)


class Texts(Judging):

    def assert_read(self, text, with_places):
        call = read_map if with_places else read_web
        due = sound_read(text, with_places)
        if isinstance(due, (Web, Map)):
            self.assert_same(call(text), due)
            self.assertEqual((map_text if with_places else web_text)(due), text)
        else:
            error = self.assert_kept(due[0], call, text)
            self.assert_same(list(vars(error).values()), [due[1]])
        return due

    def test_by_hand(self):
        self.assert_same(web_text(Web(1, ())), "web 1\n")
        self.assert_same(web_text(Web(10, ((0, 9), (3, 3)))), "web 10\ntie 0 9\ntie 3 3\n")
        self.assert_same(map_text(Map(Web(1, ()), ((),))), "web 1\nat\n")
        chart = Map(Web(3, ((0, 2), (2, 2))), ((0,), (), (3, 1, 2)))
        self.assert_same(map_text(chart), "web 3\ntie 0 2\ntie 2 2\nat 0\nat\nat 3 1 2\n")
        self.assert_same(read_map("web 3\ntie 0 2\ntie 2 2\nat 0\nat\nat 3 1 2\n"), chart)
        self.assert_same(read_web("web 2\ntie 0 1\n"), Web(2, ((0, 1),)))

    def test_there_and_back(self):
        for web in small_webs() + [crowded()]:
            self.assert_same(read_web(web_text(web)), web)
        for chart in small_maps() + flat_maps():
            self.assert_same(read_map(map_text(chart)), chart)

    def test_texts_otherwise(self):
        seen = set()
        charts = [Map(Web(2, ((0, 1), (1, 1))), ((0,), (1, 3, 2))), Map(Web(3, ((0, 2),)), ((0,), (), (1,)))]
        texts = [(web_text(Web(12 - 2, ((0, 9), (0, 0)))), False)] + [(map_text(chart), True) for chart in charts]
        texts += [(map_text(charts[0]), False), (web_text(triangle()), True)]
        for text, with_places in texts:
            for other in texts_near(text):
                due = self.assert_read(other, with_places)
                seen.add(due[0] if type(due) is tuple else type(due))
        self.assertEqual(seen, {BadText, BadWeb, BadMap, Web, Map})

    def test_lines_that_are_told(self):
        for text, line in (("", 1), ("\n", 1), ("web 3", 1), ("web 3\ntie", 2), ("web 3\ntie 0 1", 2), ("web 3\n\n", 2),
                           ("web 3\ntie 0 1\ntie 01 2\ntie x", 3), ("tie 0 1\nweb 3\n", 1), ("web 3\nweb 3\n", 2),
                           (" web 3\n", 1), ("web 3 \n", 1), ("web  3\n", 1), ("web\n", 1), ("web 3 3\n", 1),
                           ("Web 3\n", 1), ("web 3\n ", 2), ("web -3\n", 1), ("web +3\n", 1), ("web 03\n", 1),
                           ("web 00\n", 1), ("web a\n", 1), ("web 3\nat 0\n", 2), ("web 3\ntie 0 1 2\n", 2),
                           ("web 3\ntie 0\n", 2), ("web 3\ntie\n", 2), ("web 1234567890\n", 1),
                           ("web 3\ntie 0 1000000000\n", 2), ("web 3.\n", 1), ("x", 1)):
            self.assertEqual(self.assert_kept(BadText, read_web, text).line, line, text)
            if "at" not in text:
                self.assertEqual(self.assert_kept(BadText, read_map, text).line, line, text)
        for text, line in (("web 1\nat \n", 2), ("web 1\nat 0  1\n", 2), ("web 1\nat 00\n", 2),
                           ("web 1\nat\ntie 0 0\n", 3), ("web 1\nat\nweb 1\n", 3), ("at\nweb 1\n", 1),
                           ("web 1\nat 0 1234567890\n", 2), ("web 1\nat", 2), ("web 1\nat\n\n", 3),
                           ("web 1\nat 0 -1\n", 2), ("web 1\n at\n", 2)):
            self.assertEqual(self.assert_kept(BadText, read_map, text).line, line, text)

    def test_web_is_judged_behind_the_text(self):
        for text, part in (("web 0\n", "many"), ("web 11\n", "many"), ("web 999999999\n", "many"),
                           ("web 2\ntie 1 0\n", 0),
                           ("web 2\ntie 0 1\ntie 0 2\n", 1), ("web 1\n" + "tie 0 0\n" * 17, "ties"),
                           ("web 3\ntie 0 123456789\n", 0), ("web 0\ntie 5 4\n", "many")):
            self.assertEqual(self.assert_kept(BadWeb, read_web, text).part, part)
            for places in ("", "at\n", "at 5 5\n" * 3):
                self.assertEqual(self.assert_kept(BadWeb, read_map, text + places).part, part)
                self.assertEqual(self.assert_kept(BadText, read_map, text + places + "at").line,
                                 1 + (text + places).count("\n"))

    def test_map_is_judged_behind_the_web(self):
        for text, place in (("web 1\n", -1), ("web 1\nat\nat\n", -1), ("web 1\nat 0\n", 0),
                            ("web 2\ntie 0 1\nat 0\nat 0\n", 1), ("web 2\ntie 0 1\nat 1\nat 0\n", 0),
                            ("web 1\ntie 0 0\nat 0 1 2\n", 0), ("web 1\ntie 0 0\nat 0 0\n", 0),
                            ("web 2\ntie 0 1\nat\n", -1), ("web 1\nat 999999999\n", 0)):
            self.assertEqual(self.assert_kept(BadMap, read_map, text).place, place)

    def test_no_strings(self):
        for thing in NO_STRINGS + [nested(list, core="web 1\n")]:
            for call in (read_web, read_map, read_signing):
                self.assertEqual(self.assert_kept(BadText, call, thing).line, 0)

    def test_long_texts(self):
        text = "web 3\n" + "tie 0 1\n" * 2400
        self.assertEqual(self.assert_kept(BadWeb, read_web, text).part, "ties")
        self.assertEqual(self.assert_kept(BadText, read_web, text + "tie 0 1").line, 2402)
        self.assertEqual(self.assert_kept(BadMap, read_map, "web 1\nat" + " 7" * 9000 + "\n").place, 0)
        self.assertEqual(self.assert_kept(BadText, read_web, "\n" * 20000).line, 1)


def texts_near(text):
    """List texts like this one but for one sign, word or line put in, left out or otherwise."""
    found = [text]
    for at in range(len(text) + 1):
        for sign in " 019-+aA|\n":
            found += [text[:at] + sign + text[at:], text[:at] + sign + text[at + 1:]]
        found.append(text[:at] + text[at + 1:])
        found.append(text[:at])
    lines = text.split("\n")[:-1]
    for at, line in enumerate(lines + [None]):
        rows = [[]] + [[row] for row in ("", "web 2", "tie 0 1", "tie 1 0", "tie 0 1 1", "at", "at 0", "at 0 1", "tie",
                                         "show")]
        for row in rows:
            found += ["\n".join(lines[:at] + row + lines[at + skip:]) + "\n" for skip in (0, 1)]
        if line is not None:
            words = line.split(" ")
            for place in range(len(words) + 1):
                for word in ([], [""], ["0"], ["1"], ["00"], ["123456789"], ["1234567890"], ["web"], ["tie"], ["at"],
                             ["-1"]):
                    for skip in (0, 1):
                        other = " ".join(words[:place] + word + words[place + skip:])
                        found.append("\n".join(lines[:at] + [other] + lines[at + 1:]) + "\n")
    return found + ["\n".join(lines[::-1]) + "\n", text + text, text.replace("\n", "\n\n"), text.replace(" ", "  ")]


class Signings(Judging):

    def test_there_and_back(self):
        for many in range(7):
            for signing in product((False, True), repeat=many):
                text = signing_text(signing)
                self.assert_same(text, "".join("-+"[flag] for flag in signing))
                self.assert_same(read_signing(text), signing)
        for many in (17, 200, 20000):
            signing = tuple(k % 3 == 0 for k in range(many))
            self.assert_same(read_signing(signing_text(signing)), signing)
        self.assert_same((signing_text(()), read_signing("")), ("", ()))
        self.assert_same(signing_text((True, True, False)), "++-")

    def test_no_signing(self):
        flags = [form((True,)), form((False,))]
        for thing in odd_things() + no_integer() + otherwise((True, False)) + [(True, 1), (0,), [True], True, "+-",
            (None,)]:
            if form(thing) not in flags and not (type(thing) is tuple and all(type(part) is bool for part in thing)):
                self.assert_kept(NoSigning, signing_text, thing)

    def test_other_signs(self):
        for text in (" ", "+ -", "+-\n", "\n", "0", "+1", "*", "++-,", "+" * 19999 + "x", "True", "_", "~"):
            self.assertEqual(self.assert_kept(BadText, read_signing, text).line, 1)
        for thing in NO_STRINGS + [(True,), [True], 1]:
            self.assertEqual(self.assert_kept(BadText, read_signing, thing).line, 0)
