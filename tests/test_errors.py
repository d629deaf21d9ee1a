"""Point [0.3] and the errors of the interface."""

import copy
import inspect
import unittest

from takenjoined import errors
from takenjoined.webs import Web
from tests.things import nested, odd_things

FIELDS = {
    "BadWeb": "part", "BadMap": "place", "BadText": "line", "BadThrow": "index",
    "TooMany": "most", "NoName": "name", "NoWeights": "begin",
}
PLAIN = (
    "NoTie NoTies NoPlace NoOrder NoWay NoColours NoColour NoNumbers NoNumber NoSigning NoSource NoWord NoPair "
    "NoPainting NoComings NoForest NoBegin NoIndex NoFrame NoFour NoneGood NoLine NoText NothingDone Selftied "
    "SamePlace Apart Full NotFlat"
).split()
NAMES = list(FIELDS) + PLAIN


def made(name, part="many"):
    """Make the error of this name."""
    error = getattr(errors, name)
    return error(part) if name in FIELDS else error()


class ErrorClasses(unittest.TestCase):

    def test_there_are_36(self):
        self.assertEqual(len(NAMES), 36)
        kept = [name for name, thing in vars(errors).items() if inspect.isclass(thing)]
        self.assertEqual(sorted(kept), sorted(NAMES + ["PaintError"]))

    def test_bases(self):
        self.assertEqual(errors.PaintError.__bases__, (ValueError,))
        for name in NAMES:
            self.assertEqual(getattr(errors, name).__bases__, (errors.PaintError,), name)

    def test_names_and_file(self):
        for name in NAMES + ["PaintError"]:
            error = getattr(errors, name)
            self.assertEqual(error.__name__, name)
            self.assertEqual(error.__module__, "takenjoined.errors")

    def test_each_takes_care_of_its_own_making(self):
        for name in NAMES:
            self.assertIn("__init__", vars(getattr(errors, name)), name)

    def test_base_is_made_with_nothing(self):
        self.assertIsInstance(errors.PaintError(), ValueError)


class ErrorFields(unittest.TestCase):

    def test_field_keeps_the_very_thing(self):
        things = odd_things() + [0, -1, 7, 10 ** 19, (), (0, 1), nested(tuple), nested(list), nested(dict)]
        for name, field in FIELDS.items():
            for thing in things + [Web(2, ((0, 1),)), object()]:
                self.assertIs(getattr(made(name, thing), field), thing, name)

    def test_each_keeps_its_own(self):
        one, other = errors.BadWeb("many"), errors.BadWeb(3)
        self.assertEqual((one.part, other.part), ("many", 3))

    def test_only_the_fields(self):
        for name in NAMES:
            held = [FIELDS[name]] if name in FIELDS else []
            self.assertEqual(list(vars(made(name))), held, name)

    def test_made_by_the_field_name(self):
        for name, field in FIELDS.items():
            self.assertEqual(getattr(getattr(errors, name)(**{field: 5}), field), 5)

    def test_made_with_just_these(self):
        for name in NAMES:
            error = getattr(errors, name)
            wrong = [(), (1, 2)] if name in FIELDS else [(1,), ("x",), (None,), (1, 2)]
            for given in wrong:
                with self.assertRaises(TypeError, msg=name):
                    error(*given)

    def test_field_is_not_changed_or_copied(self):
        held = [0, [1]]
        for name, field in FIELDS.items():
            kept = getattr(made(name, held), field)
            self.assertIs(kept, held)
            self.assertEqual(held, [0, [1]])

    def test_copies_are_alike(self):
        for name in NAMES:
            again = copy.copy(made(name, 4))
            self.assertIs(type(again), getattr(errors, name))
            self.assertEqual(vars(again), vars(made(name, 4)))


class ErrorsCaught(unittest.TestCase):

    def test_caught_as_itself_and_as_its_bases(self):
        for name in NAMES:
            for kind in (getattr(errors, name), errors.PaintError, ValueError):
                with self.assertRaises(kind) as caught:
                    raise made(name)
                self.assertIs(type(caught.exception), getattr(errors, name))

    def test_not_caught_as_another(self):
        for name in NAMES:
            for other in NAMES:
                self.assertEqual(isinstance(made(name), getattr(errors, other)), name == other)
            for other in (TypeError, LookupError, ArithmeticError, RuntimeError, UnicodeError):
                self.assertNotIsInstance(made(name), other)

    def test_text_can_be_asked(self):
        for name in NAMES:
            for part in ("many", 3, None, nested(tuple), nested(dict)):
                self.assertIsInstance(str(made(name, part)), str)
