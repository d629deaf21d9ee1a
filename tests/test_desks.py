"""Point [11.2]: desks, their deeds and questions, what is taken back, journals and what is recovered from them."""

from random import Random
from re import fullmatch

from takenjoined.counts import fewest, numbers, parted
from takenjoined.desks import Desk, recovered
from takenjoined.errors import (
    BadWeb, Full, NoLine, NoName, NoNumber, NoPlace, NoText, NoTie, NothingDone, PaintError,
)
from takenjoined.paintings import painted
from takenjoined.signings import rising
from takenjoined.tables import frames, table_at
from takenjoined.texts import read_web, web_text
from takenjoined.thin import thinness
from takenjoined.webs import Web, joined, taken
from tests.things import Judging, crowded, ladder, no_integer, odd_things, petersen, triangle

NAME, NUMBER = "[a-z]{1,8}", "(?:0|[1-9][0-9]{0,8})"
SIGNED = "(?:0|-?[1-9][0-9]{0,8})"
FORMS = [
    f"web {NAME} {NUMBER}", f"copy {NAME} {NAME}", f"tie {NAME} {NUMBER} {NUMBER}", f"take {NAME} {NUMBER}",
    f"join {NAME} {NUMBER}", f"drop {NAME}", "undo", f"painted {NAME} {NUMBER}", f"fewest {NAME}",
    f"parted {NAME} {NAME}", f"numbers {NAME}", f"rising {NAME}", f"frames {NAME}", f"at {NAME} {SIGNED} {SIGNED}",
    f"thin {NAME}", f"show {NAME}",
]
DEEDS = ("web", "copy", "tie", "take", "join", "drop")
NO_STRINGS = [thing for thing in odd_things() + no_integer() + [0, b"undo", ("undo",)] if not isinstance(thing, str)]
SETTING = ("web a 3", "tie a 0 1", "tie a 2 0", "tie a 1 2", "web b 1", "copy a c", "take c 1")

ANSWERS = {
    "numbers a": "0 2 -3 1", "numbers b": "0 1", "painted a 3": "6", "painted a 0": "0", "fewest a": "3",
    "fewest b": "1", "painted a 999999999": str(999999999 * 999999998 * 999999997), "parted a c": "2",
    "parted a a": "none", "parted b b": "none", "rising a": "6", "rising b": "1", "frames a": "3",
    "frames b": "1", "at a -1 -1": "-1", "at a 2 2": "8", "at a 0 0": "0", "at a 99 -99": str(99 ** 2), "thin a": "2",
    "thin b": "0", "show b": "web 1|", "show a": "web 3|tie 0 1|tie 0 2|tie 1 2|", "show c": "web 3|tie 0 1|tie 1 2|",
}
# What is answered when b has a selftie.
SELFTIED_ANSWERS = {
    "fewest b": "none", "painted b 7": "0", "rising b": "0", "frames b": "1", "parted b b": "none", "numbers b": "0 0",
    "parted a b": "3", "at b 5 7": "7", "thin b": "0", "show b": "web 1|tie 0 0|",
}


def is_line(line):
    return any(fullmatch(form, line) for form in FORMS)


class Model:
    """A desk by the document's words, that keeps all webs as they stood ahead of each deed."""

    def __init__(self):
        self.webs, self.past = {}, []

    def tell(self, line):
        if not is_line(line):
            raise NoLine()
        word, *parts = line.split(" ")
        made = {"web": [0], "copy": [1]}.get(word, [])
        for at, part in enumerate(parts):
            if part.isalpha() and at not in made and part not in self.webs:
                raise NoName(part)
        things = [self.webs.get(part) if part.isalpha() else int(part) for part in parts]
        if word == "undo":
            if not self.past:
                raise NothingDone()
            self.webs = self.past.pop()[1]
        elif word in DEEDS:
            webs = self.changed(word, parts, things)
            self.past.append((line, self.webs))
            self.webs = webs
        else:
            return self.answer(word, things)
        return "ok"

    def changed(self, word, parts, things):
        webs = dict(self.webs)
        if word == "web":
            webs[parts[0]] = Web(things[1], ())
        elif word == "copy":
            webs[parts[1]] = things[0]
        elif word == "tie":
            web, u, v = things
            if max(u, v) >= web.many:
                raise NoPlace()
            if len(web.ties) == 16:
                raise Full()
            webs[parts[0]] = Web(web.many, web.ties + (tuple(sorted((u, v))),))
        elif word == "drop":
            del webs[parts[0]]
        else:
            webs[parts[0]] = (taken if word == "take" else joined)(*things)
        return webs

    def answer(self, word, things):
        told = {
            "painted": painted, "fewest": fewest, "parted": parted, "rising": lambda web: len(rising(web)),
            "frames": lambda web: len(frames(web)), "at": table_at, "thin": thinness,
            "numbers": lambda web: " ".join(map(str, numbers(web))),
            "show": lambda web: web_text(web).replace("\n", "|"),
        }[word](*things)
        return "none" if told is None else str(told)

    def journal(self):
        return "".join(line + "\n" for line, _ in self.past)


def told(desk, line):
    """Tell what a line leads to: a string, or the error's class and what it keeps."""
    try:
        return desk.tell(line)
    except PaintError as error:
        return (type(error), list(vars(error).values()))


def shown(desk, names):
    """Tell what is kept under each name."""
    return [told(desk, "show " + name) for name in names]


def set_desk(*lines):
    desk = Desk()
    for line in SETTING + lines:
        desk.tell(line)
    return desk


def any_line(rng):
    names = [rng.choice(("a", "b", "c", "abcdefgh", "undo")) for _ in range(2)]
    small = [str(rng.choice((0, 1, 2, 3, 4, 10, 11))) for _ in range(2)]
    word = rng.choice(("web", "copy", "tie", "tie", "tie", "tie", "take", "join", "drop", "undo", "undo", "show", "at",
                       "numbers", "parted", "painted", "fewest", "thin", "frames", "rising"))
    parts = {"web": names[:1] + small[:1], "copy": names, "tie": names[:1] + small, "undo": [], "parted": names,
             "at": names[:1] + [rng.choice(("-", "")) + number if number != "0" else number for number in small]}
    one = names[:1] + (small[:1] if word in ("take", "join", "painted") else [])
    return " ".join([word] + parts.get(word, one))


class Desks(Judging):

    def test_any_lines(self):
        names = ("a", "b", "c", "abcdefgh", "undo")
        words = set()
        for seed in range(60):
            rng = Random(seed)
            desk, model = Desk(), Model()
            for line in ["web a 4", "web undo 3"] + [any_line(rng) for _ in range(120)]:
                due = told(model, line)
                self.assertEqual(told(desk, line), due, line)
                self.assertEqual(desk.journal(), model.journal())
                self.assertEqual(shown(desk, names), shown(model, names))
                words.add(due if isinstance(due, str) else due[0])
        self.assertLessEqual({"ok", "none", NoName, NothingDone, NoPlace, NoTie, BadWeb}, words)

    def test_questions(self):
        desk = set_desk()
        for line, due in ANSWERS.items():
            self.assert_same(desk.tell(line), due)
        desk.tell("tie b 0 0")
        for line, due in SELFTIED_ANSWERS.items():
            self.assert_same(desk.tell(line), due)
        self.assertEqual(desk.journal(), "\n".join(SETTING) + "\ntie b 0 0\n")

    def test_greater_webs(self):
        for web in (petersen(), crowded(), ladder()):
            desk = Desk()
            for line in [f"web great {web.many}"] + [f"tie great {v} {u}" for u, v in web.ties]:
                self.assert_same(desk.tell(line), "ok")
            self.assertEqual(desk.tell("show great"), web_text(web).replace("\n", "|"))
            self.assertEqual(desk.tell("numbers great"), " ".join(map(str, numbers(web))))
            self.assertEqual(desk.tell("rising great"), str(len(rising(web))))
            self.assertEqual(desk.tell("frames great"), str(table_at(web, 1, 1)))
            self.assertEqual(desk.tell("at great 3 -4"), str(table_at(web, 3, -4)))
            self.assertEqual(desk.tell("thin great"), str(thinness(web)))
            self.assertEqual(desk.tell("painted great 6"), str(painted(web, 6)))

    def test_in_range_and_out_of_range(self):
        full = ("tie b 0 0",) * 16
        for line, error in (("web a 0", BadWeb), ("web z 11", BadWeb), ("web z 999999999", BadWeb),
                            ("tie a 3 0", NoPlace), ("tie a 0 3", NoPlace), ("tie b 1 0", NoPlace),
                            ("tie b 0 999999999", NoPlace), ("take a 3", NoTie), ("join a 3", NoTie),
                            ("take b 0", NoTie), ("join c 2", NoTie), ("take a 999999999", NoTie),
                            ("at a 100 0", NoNumber), ("at a 0 -100", NoNumber), ("at a -999999999 0", NoNumber)):
            self.assert_nothing_changed(set_desk(), line, error)
        self.assert_nothing_changed(set_desk(*full), "tie b 0 0", Full)
        self.assert_nothing_changed(set_desk(*full), "tie b 0 1", NoPlace)
        self.assert_nothing_changed(set_desk(*full), "tie b 1 0", NoPlace)
        for line in ("web z 10", "web z 1", "tie a 2 2", "take a 2", "join a 0", "join c 1", "drop a", "at a -99 99",
                     "copy a a"):
            self.assertIsInstance(set_desk().tell(line), str)
        with self.assertRaises(BadWeb) as caught:
            set_desk().tell("web z 0")
        self.assertEqual(caught.exception.part, "many")

    def assert_nothing_changed(self, desk, line, error):
        ahead = (desk.journal(), shown(desk, "abcz"))
        told_error = self.assert_kept(error, desk.tell, line)
        self.assertEqual((desk.journal(), shown(desk, "abcz")), ahead)
        # The last deed is still the one that undo takes back.
        if desk.journal():
            desk.tell("undo")
            self.assertEqual(desk.journal().split("\n"), ahead[0].split("\n")[:-2] + [""])
        return told_error

    def test_order_of_errors(self):
        desk = set_desk()
        for line in ("copy z y", "tie z 9 9", "take z 99", "join z 99", "drop z", "painted z 3", "fewest z",
                     "parted z y", "parted z a", "numbers z", "rising z", "frames z", "at z 100 100", "thin z",
                     "show z", "parted a z"):
            self.assertEqual(self.assert_nothing_changed(set_desk(), line, NoName).name, "z")
        for line in ("copy z", "tie z 9", "at z 100 -0", "parted z Y", "web z", "show z z", "drop abcdefghi"):
            self.assert_nothing_changed(set_desk(), line, NoLine)
        self.assert_nothing_changed(desk, "tie a 3 99", NoPlace)
        self.assert_nothing_changed(Desk(), "undo", NothingDone)
        self.assert_nothing_changed(Desk(), "undo ", NoLine)

    def test_undo_of_each_deed(self):
        names = "abcxz"
        for deed in ("web x 2", "web a 5", "copy a x", "copy a b", "copy a a", "tie a 1 1", "tie b 0 0", "take a 0",
                     "join a 1", "join c 0", "drop a", "drop c", "web c 3"):
            desk = set_desk()
            ahead = (desk.journal(), shown(desk, names))
            self.assert_same(desk.tell(deed), "ok")
            self.assertEqual(desk.journal(), ahead[0] + deed + "\n")
            behind = shown(desk, names)
            self.assert_same(desk.tell("undo"), "ok")
            self.assertEqual((desk.journal(), shown(desk, names)), ahead)
            self.assert_same(desk.tell(deed), "ok")
            self.assertEqual(shown(desk, names), behind)

    def test_undo_over_and_over(self):
        lines = SETTING + ("copy b a", "drop b", "web b 4", "tie b 3 0", "copy b b", "copy b a", "drop a", "drop c",
                           "web c 2")
        desk, stands = Desk(), []
        for line in lines:
            stands.append((desk.journal(), shown(desk, "abc")))
            desk.tell(line)
        for stand in reversed(stands):
            self.assert_same(desk.tell("undo"), "ok")
            self.assertEqual((desk.journal(), shown(desk, "abc")), stand)
        self.assert_kept(NothingDone, desk.tell, "undo")
        # What is taken back is not there to be taken back again, and undo itself is none.
        desk.tell("web a 1")
        desk.tell("web a 2")
        desk.tell("undo")
        self.assert_same(desk.tell("show a"), "web 1|")
        desk.tell("undo")
        self.assert_kept(NothingDone, desk.tell, "undo")
        self.assertEqual(desk.journal(), "")

    def test_copies_go_their_own_ways(self):
        desk = set_desk("copy a b", "tie b 0 0", "drop a")
        self.assert_same(desk.tell("show b"), "web 3|tie 0 1|tie 0 2|tie 1 2|tie 0 0|")
        self.assertEqual(self.assert_kept(NoName, desk.tell, "show a").name, "a")

    def test_names_like_words(self):
        desk = Desk()
        for line in ("web web 3", "copy web undo", "tie undo 0 1", "copy undo copy", "drop web", "web abcdefgh 1",
                     "web z 1"):
            self.assert_same(desk.tell(line), "ok")
        self.assert_same(desk.tell("parted copy undo"), "none")
        self.assert_same(desk.tell("show undo"), "web 3|tie 0 1|")

    def test_desks_keep_apart(self):
        one, other = Desk(), Desk()
        one.tell("web a 1")
        self.assert_kept(NoName, other.tell, "show a")
        self.assertEqual((one.journal(), other.journal()), ("web a 1\n", ""))
        self.assertTrue(one == one)
        self.assertFalse(one != one)
        self.assertFalse(Desk() == Desk())
        self.assertTrue(Desk() != Desk())
        for thing in odd_things():
            self.assertIs(one == thing, False)


class Lines(Judging):

    def test_each_form_otherwise(self):
        lines = ("web a 3", "copy a b", "tie a 0 1", "take a 0", "join a 0", "drop a", "undo", "painted a 3",
                 "fewest a",
                 "parted a c", "numbers a", "rising a", "frames a", "at a -1 0", "thin a", "show a", "web abcdefgh 10")
        for line in lines:
            self.assertIsInstance(set_desk().tell(line), str)
            right = 0
            for other in lines_near(line):
                if is_line(other):
                    right += 1
                    due, desk = Model(), set_desk()
                    for ahead in SETTING:
                        due.tell(ahead)
                    self.assertEqual(told(desk, other), told(due, other), other)
                else:
                    desk = set_desk()
                    self.assert_kept(NoLine, desk.tell, other)
                    self.assertEqual(desk.journal(), "\n".join(SETTING) + "\n")
            self.assertGreater(right, 0)

    def test_by_hand(self):
        desk = set_desk()
        for line in ("", " ", "\n", "undo\n", "undo ", " undo", "Undo", "undo undo", "web a", "web a 3 3", "web 3 a",
                     "web a 03", "web a +3", "web a -3", "web a 3.", "web  a 3", "web a  3", "web A 3", "web a1 3",
                     "web abcdefghi 3", "web a 1234567890", "tie a 0 -0", "at a -0 1", "at a 1 -0", "at a +1 0",
                     "at a 1 - 1", "at a - 1", "at a -- 1", "at a 00 1", "at a -01 1", "at a -1234567890 1",
                     "at a 1 2 3", "painted a", "painted a -1", "painted a 00", "fewest", "fewest a b", "parted a",
                     "parted a b c", "drop", "drop a a", "copy a", "copy a 3", "show  a", "show a ", "show a|",
                     "look a", "journal", "tell", "take a a", "join a -1", "web a\n3", "web a 3\n", "\nweb a 3",
                     "show _"):
            self.assert_kept(NoLine, desk.tell, line)
        self.assertEqual(desk.journal(), "\n".join(SETTING) + "\n")
        self.assert_kept(NoLine, desk.tell, "a" * 20000)
        self.assert_kept(NoLine, desk.tell, "web a 3\n" * 2000)

    def test_no_strings(self):
        for thing in NO_STRINGS:
            self.assert_kept(NoLine, Desk().tell, thing)
            self.assert_kept(NoText, recovered, thing)


def lines_near(line):
    """List lines like this one but for one word or sign put in, left out or otherwise."""
    found = [line + line]
    for at in range(len(line) + 1):
        for sign in " 09-+aA\n":
            found += [line[:at] + sign + line[at:], line[:at] + sign + line[at + 1:]]
        found.append(line[:at] + line[at + 1:])
    words = line.split(" ")
    for at in range(len(words) + 1):
        for word in ("", "0", "00", "-0", "-1", "+1", "-01", "123456789", "1234567890", "a", "b", "z", "A", "abcdefgh",
                     "abcdefghi", "web", "undo", "at"):
            found += [" ".join(words[:at] + [word] + words[at + skip:]) for skip in (0, 1)]
        found.append(" ".join(words[:at] + words[at + 1:]))
    return found


class Recovered(Judging):

    def assert_recovered(self, text):
        """By the document's words: line by line, as long as each is a deed and raises nothing."""
        model, many = Model(), 0
        for line in text.split("\n")[:-1]:
            if line.split(" ")[0] not in DEEDS or told(model, line) != "ok":
                break
            many += len(line) + 1
        pair = recovered(text)
        self.assert_same((type(pair), len(pair)), (tuple, 2))
        desk, signs = pair
        self.assertIs(type(desk), Desk)
        self.assert_same(signs, many)
        self.assertEqual(desk.journal(), text[:many])
        self.assertEqual(shown(desk, "abcz"), shown(model, "abcz"))
        return desk

    def test_cut_behind_every_sign(self):
        desk = set_desk("join a 1", "drop b", "web b 2", "copy c a", "tie b 1 0")
        journal = desk.journal()
        stands = set()
        for cut in range(len(journal) + 1):
            stands.add(self.assert_recovered(journal[:cut]).journal())
        lines = journal.split("\n")[:-1]
        self.assertEqual(stands, {"".join(line + "\n" for line in lines[:many]) for many in range(len(lines) + 1)})

    def test_lines_put_in(self):
        lines = list(SETTING) + ["drop c", "web z 10"]
        for put in ("show a", "undo", "numbers a", "web a 0", "web a", "", " ", "drop q", "take b 0", "tie a 0 9",
                    "web a 5", "copy a z", "copy q a", "web a 03", "drop a\n", "undo undo", "at a 1 1", "nothing"):
            for at in range(len(lines) + 1):
                self.assert_recovered("\n".join(lines[:at] + [put] + lines[at:]) + "\n")

    def test_what_is_recovered_goes_on(self):
        desk, many = recovered("web a 2\ntie a 1 0\nshow a\nweb b 1\n")
        self.assertEqual(many, 18)
        self.assert_same(desk.tell("show a"), "web 2|tie 0 1|")
        self.assert_same(desk.tell("undo"), "ok")
        self.assert_same(desk.tell("undo"), "ok")
        self.assert_kept(NothingDone, desk.tell, "undo")
        self.assert_same(recovered("")[1], 0)
        self.assert_same(recovered("web a 1")[1], 0)
        self.assert_same(recovered("\nweb a 1\n")[1], 0)
        self.assertFalse(recovered("") == recovered(""))

    def test_after_undo(self):
        desk = set_desk("undo", "undo", "web b 3", "undo", "tie b 0 0")
        self.assertEqual(desk.journal(), "\n".join(SETTING[:-2] + ("tie b 0 0",)) + "\n")
        again, many = recovered(desk.journal())
        self.assertEqual((again.journal(), many), (desk.journal(), len(desk.journal())))
        self.assertEqual(shown(again, "abc"), shown(desk, "abc"))

    def test_long_journals(self):
        desk = Desk()
        for k in range(2500):
            desk.tell(f"web {'abcdefgh'[k % 8] * (1 + k % 7)} {1 + k % 10}")
        again, many = recovered(desk.journal())
        self.assertEqual((again.journal(), many), (desk.journal(), len(desk.journal())))
        for _ in range(2500):
            again.tell("undo")
        self.assertEqual(again.journal(), "")
        self.assertEqual(read_web(set_desk().tell("show a").replace("|", "\n")), triangle())
