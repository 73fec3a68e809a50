"""[1.1] The error classes."""

import unittest

from forkhaul import errors
from tests.helpers import Case, odd_things

WITH_WHY = ("BadName", "BadPath", "BadRef", "BadChange", "BadMark", "BadLetter", "BadCommand", "Crash", "Cut")
WITH_FIELD = {
    "BadObject": "at", "BadPack": "at", "BadExpression": "at", "Clash": "name", "Conflict": "paths",
    "Locked": "ref", "Stale": "ref",
}
KEY_ERRORS = ("NoObject", "NoRef")
ALL = ("ForkError", *WITH_WHY, *WITH_FIELD, *KEY_ERRORS)


class Bases(Case):
    def test_direct_bases(self):
        self.assertEqual(errors.ForkError.__bases__, (ValueError,))
        for name in (*WITH_WHY, *WITH_FIELD):
            self.assertEqual(getattr(errors, name).__bases__, (errors.ForkError,), name)
        for name in KEY_ERRORS:
            self.assertEqual(getattr(errors, name).__bases__, (KeyError,), name)

    def test_no_other_relations(self):
        for one in ALL:
            for other in ALL:
                related = one == other or (other == "ForkError" and one not in KEY_ERRORS)
                self.assertEqual(issubclass(getattr(errors, one), getattr(errors, other)), related, (one, other))

    def test_what_catches_them(self):
        for name in ALL:
            kind = getattr(errors, name)
            made = kind() if name == "ForkError" or name in WITH_WHY else kind(1)
            caught = None
            try:
                raise made
            except errors.ForkError as error:
                self.assertNotIn(name, KEY_ERRORS)
                caught = error
            except KeyError as error:
                self.assertIn(name, KEY_ERRORS)
                caught = error
            self.assertIs(caught, made)

    def test_they_are_defined_in_this_file(self):
        for name in ALL:
            self.assertEqual(getattr(errors, name).__module__, "forkhaul.errors")


class Fields(Case):
    def test_why(self):
        for name in ("ForkError", *WITH_WHY):
            kind = getattr(errors, name)
            self.assertIsInstance(kind().why, str)
            for text in ("", "x", "two\nlines", "a" * 5000):
                self.assertIsInstance(kind(text).why, str)
                self.assertIsInstance(kind(why=text).why, str)

    def test_one_field_with_any_object(self):
        rows = [(name, WITH_FIELD[name]) for name in WITH_FIELD] + [(name, "name") for name in KEY_ERRORS]
        for name, field in rows:
            kind = getattr(errors, name)
            for thing in [*odd_things(), 7, "a", ("a", "b")]:
                self.assertIs(getattr(kind(thing), field), thing)
                self.assertIs(getattr(kind(**{field: thing}), field), thing)

    def test_one_argument_only(self):
        for name in (*WITH_FIELD, *KEY_ERRORS):
            kind = getattr(errors, name)
            self.assertRaises(TypeError, kind)
            self.assertRaises(TypeError, kind, 1, 2)
        for name in ("ForkError", *WITH_WHY):
            self.assertRaises(TypeError, getattr(errors, name), "a", "b")


if __name__ == "__main__":
    unittest.main()
