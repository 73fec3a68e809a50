"""[1.2] Words and times."""

import unittest

from forkhaul.objects import Commit
from forkhaul.errors import BadName
from forkhaul.words import is_author, is_id, is_path, is_ref, is_text
from tests.helpers import ONE, Case, odd_things

TWELVE = "abcdefghijkl"
LETTERS = "abcdefghijklmnopqrstuvwxyz"
DIGITS = "0123456789"


class Words(Case):
    def yes(self, word, *things):
        for thing in things:
            self.assertIs(word(thing), True, repr(thing))

    def no(self, word, *things):
        for thing in things:
            self.assertIs(word(thing), False, repr(thing))

    def signs_of(self, word, front, behind):
        """The signs that may stand between two texts."""
        return "".join([chr(code) for code in range(0x180) if word(front + chr(code) + behind)])

    def test_objects_that_are_no_texts(self):
        for thing in odd_things():
            for word in (is_id, is_path, is_ref, is_author):
                self.assertIs(word(thing), False, (word, repr(thing)))
            if not isinstance(thing, str):
                self.assertIs(is_text(thing), False, repr(thing))

    def test_by_name(self):
        self.assertTrue(is_id(thing=ONE))
        self.assertTrue(is_path(thing="a"))
        self.assertTrue(is_ref(thing="a"))
        self.assertTrue(is_author(thing="a"))
        self.assertTrue(is_text(thing="a"))

    def test_ids(self):
        self.yes(is_id, "0123456789abcdef", "0" * 16, "f" * 16, "9" * 16, "a" * 16)
        self.no(is_id, "", "0" * 15, "0" * 17, "0" * 15 + "g", "0" * 15 + "F", "A" + "0" * 15, "0" * 15 + "\n",
                "0" * 16 + "\n", "\n" + "0" * 16, " " + "0" * 15, "0" * 15 + "\u0661", "0x" + "0" * 14, "-" + "0" * 15)
        self.no(is_id, b"0" * 16, ["0"] * 16, 10 ** 15, ("0",) * 16)
        self.assertEqual(self.signs_of(is_id, "0" * 7, "0" * 8), DIGITS + "abcdef")

    def test_paths(self):
        self.yes(is_path, "a", "z", "0", "9", "_", "-", ".a", "a.", "a.b", "a.b.c", TWELVE, "a/b", "a/b/c/d/e/f",
                 "/".join([TWELVE] * 6), "-/_", ".a/.b", "._-", "a./.b", "far/a")
        self.no(is_path, "", ".", "..", "a/.", "./a", "a/./b", "a..b", "...", "..a", "a..", "a/b..c", "a/../b",
                TWELVE + "m", "a/" + TWELVE + "m", TWELVE + "m/a", "a/b/c/d/e/f/g", "/", "/a", "a/", "a//b", "A", "aB",
                "a b", "a\n", "a/b\n", "\na", "\n", "a\\b", "a+b", "a~", "\u00e9", "a:b", "a/" * 5000 + "a")
        self.assertEqual(self.signs_of(is_path, "a", "b"), "-./" + DIGITS + "_" + LETTERS)

    def test_references(self):
        self.yes(is_ref, "a", "z", "0", "9", "-", TWELVE, "main", "a-b", "a/b/c/d/e", "/".join([TWELVE] * 5), "far",
                 "far/a", "far/a/b/c/d/e", "far/a/b/c/d/e/f", "-/-", "fa/b/c/d/e", "head")
        self.no(is_ref, "", TWELVE + "m", "a/" + TWELVE + "m", "a/b/c/d/e/f", "far/a/b/c/d/e/f/g",
                "farr/b/c/d/e/f", "a/far/c/d/e/f", "fa/b/c/d/e/f", "FAR/a", "HEAD", "A", "a.b", "a_b", "/", "/a",
                "a/", "a//b", "far/", "far//a", "a b", "a\n", "a/b\n", "\n", ".", "a/.", "a@b", "\u00e9")
        self.assertEqual(self.signs_of(is_ref, "a", "b"), "-/" + DIGITS + LETTERS)
        self.assertEqual(self.signs_of(is_ref, "far/a/b/c/d/e/", "b"), "-" + DIGITS + LETTERS)

    def test_authors(self):
        self.yes(is_author, "a", "z", TWELVE, "ann")
        self.no(is_author, "", TWELVE + "m", "Ann", "a1", "a b", "a-b", "a_b", "a/b", "ann\n", "\n", "\u00e9")
        self.assertEqual(self.signs_of(is_author, "a", "b"), LETTERS)

    def test_texts(self):
        self.yes(is_text, "", " ", "~", "\n", "a\nb\n", "a" * 2000, "\n" * 2000, "".join(map(chr, range(32, 127))))
        self.no(is_text, "a" * 2001, "\n" * 2001, "\t", "\r", "a\r\n", "\x00", "\x1f", "\x7f", "\x80", "\u00e9",
                "a" * 1999 + "\t", "\u2028", "\ud800")
        self.assertEqual(self.signs_of(is_text, "a", "b"), "\n" + "".join(map(chr, range(32, 127))))


class Times(Case):
    def made(self, time):
        return Commit(ONE, author="ann", time=time)

    def test_times(self):
        for time in (0, 1, 10 ** 12 - 1, 10 ** 12):
            self.assertEqual(self.made(time).time, time)

    def test_what_is_no_time(self):
        for time in (-1, 10 ** 12 + 1, 10 ** 40, True, False, 1.0, 0.0, "1", None, [], {}, (1,), 1j, float("nan")):
            self.assert_error(BadName, self.made, time)


if __name__ == "__main__":
    unittest.main()
