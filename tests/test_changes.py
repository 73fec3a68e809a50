"""[8.1], [8.2] Changes: their rows, their sums, and what they do to files."""

import itertools
import unittest

from forkhaul.changes import Change
from forkhaul.errors import BadChange, BadPath, Conflict
from tests.helpers import ONE, ZERO, Case, chance, odd_things
from tests.test_merging import X, Y, Z, no_files

VALUES = (None, X, Y, Z)


def no_changes():
    return [thing for thing in odd_things() if not isinstance(thing, Change)]


def no_rows():
    return [thing for thing in odd_things() if thing != {}] + [
        {"": (X, Y)}, {"A": (X, Y)}, {"a/": (X, Y)}, {"a/b/c/d/e/f/g": (X, Y)}, {1: (X, Y)}, {None: (X, Y)},
        {("a",): (X, Y)}, {b"a": (X, Y)}, {"a": X}, {"a": None}, {"a": [X, Y]}, {"a": (X,)}, {"a": (X, Y, Z)}, {"a": ()},
        {"a": (X, ZERO)}, {"a": (("dir", ONE), X)}, {"a": (X, ("dir", ONE))}, {"a": (X, ["file", ONE])},
        {"a": (X, ("file", "x"))}, {"a": (("file",), X)}, {"a": (X, {})}, {"a": ([], X)}, {"a": (0, X)}, {"a": (X, False)},
        {"a": (X, ("file", ONE, 1))}, {"a": (X, Y), "b": X}, [("a", (X, Y))], {"a": (X, (None, ONE))}]


def tossed(numbers, paths):
    """A change of some of these paths."""
    return Change({path: (VALUES[next(numbers) % 4], VALUES[next(numbers) % 4])
                   for path in paths if next(numbers) % 2})


def sum_or_none(one, other):
    if one is None or other is None:
        return None
    try:
        return one + other
    except BadChange:
        return None


class Making(Case):
    def test_rows(self):
        self.assertEqual(Change({}).rows, {})
        rows = {"b": (X, Y), "a/b": (None, X), "a": (X, None), "a-": (X, X), "c": (None, None)}
        change = Change(rows)
        self.assertEqual(change.rows, rows)
        self.assertEqual(list(change.rows), ["a", "a-", "a/b", "b", "c"])
        self.assertEqual(Change(rows=rows).rows, rows)

    def test_rows_are_new(self):
        rows = {"a": (X, Y)}
        change = Change(rows)
        rows["b"] = (X, Y)
        change.rows["c"] = (X, Y)
        self.assertEqual(change.rows, {"a": (X, Y)})
        self.assertIsNot(change.rows, change.rows)
        with self.assertRaises(AttributeError):
            change.rows = {}

    def test_what_is_none(self):
        for wrong in no_rows():
            self.assert_error(BadChange, Change, wrong)

    def test_equality(self):
        one = Change({"a": (X, Y), "b": (X, X)})
        self.assertIs(one == Change({"b": (X, X), "a": (X, Y)}), True)
        self.assertIs(one != Change({"b": (X, X), "a": (X, Y)}), False)
        for rows in ({}, {"a": (X, Y)}, {"a": (X, Y), "b": (Y, Y)}, {"a": (X, Y), "c": (X, X)}, {"a": (Y, X), "b": (X, X)}):
            self.assertIs(one == Change(rows), False)
        for thing in [*no_changes(), one.rows]:
            self.assertIs(one == thing, False)
            self.assertIs(thing == one, False)
            self.assertIs(Change({}) == thing, False)

    def test_between(self):
        old, new = {"b": X, "a": X, "c": X}, {"c": X, "a/b": Y, "b": Z}
        change = Change.between(old, new)
        self.assertEqual(list(change.rows.items()), [("a", (X, None)), ("a/b", (None, Y)), ("b", (X, Z))])
        self.assertEqual(Change.between(old=new, new=old), -change)
        self.assertEqual(Change.between(old, old), Change({}))
        self.assertEqual(Change.between({"a": X, "a/b": X}, {}).rows, {"a": (X, None), "a/b": (X, None)})
        self.assertIs(type(change), Change)

    def test_between_what_is_no_files(self):
        for wrong in no_files():
            self.assert_error(BadPath, Change.between, wrong, {})
            self.assert_error(BadPath, Change.between, {"a": X}, wrong)

    def test_plain(self):
        change = Change({"a": (X, Y), "b": (X, X), "c": (None, None), "d": (None, X)})
        self.assertEqual(change.plain(), Change({"a": (X, Y), "d": (None, X)}))
        self.assertEqual(len(change.rows), 4)
        self.assertEqual(change.plain().plain(), change.plain())
        self.assertEqual(Change({"b": (X, X)}).plain(), Change({}))


class Sums(Case):
    def test_ordinary_ones(self):
        one = Change({"a": (None, X), "b": (X, Y)})
        other = Change({"c": (X, None), "a": (X, Z)})
        self.assertEqual(list((one + other).rows.items()), [("a", (None, Z)), ("b", (X, Y)), ("c", (X, None))])
        self.assertEqual((one.rows, other.rows), ({"a": (None, X), "b": (X, Y)}, {"c": (X, None), "a": (X, Z)}))
        self.assertEqual(one + Change({}), one)
        self.assertEqual(Change({}) + one, one)
        self.assertEqual((Change({"a": (X, Y)}) + Change({"a": (Y, X)})).rows, {"a": (X, X)})

    def test_sums_that_do_not_fit(self):
        one = Change({"a": (None, X), "b": (X, Y)})
        for rows in ({"a": (None, X)}, {"a": (Y, X)}, {"a": (X, X), "b": (X, Y)}, {"b": (None, Y)}, {"a": (Z, X)}):
            self.assert_error(BadChange, lambda: one + Change(rows))
        self.assertEqual((one + Change({"a": (X, None), "b": (Y, X)})).rows, {"a": (None, None), "b": (X, X)})

    def test_all_of_one_path(self):
        for old, middle, begin, new in itertools.product(VALUES, repeat=4):
            total = sum_or_none(Change({"a": (old, middle)}), Change({"a": (begin, new)}))
            self.assertEqual(total, Change({"a": (old, new)}) if middle == begin else None)

    def test_both_ways_of_bracketing(self):
        numbers = chance(11)
        sums = 0
        for _ in range(3000):
            one, two, three = [tossed(numbers, ("a", "b")) for _ in range(3)]
            left = sum_or_none(sum_or_none(one, two), three)
            right = sum_or_none(one, sum_or_none(two, three))
            self.assertEqual(left, right)
            sums += left is not None
        self.assertTrue(100 < sums < 2900)

    def test_inverses(self):
        change = Change({"a": (None, X), "b": (X, Y), "c": (Z, Z), "a/b": (X, None)})
        self.assertEqual((-change).rows, {"a": (X, None), "a/b": (None, X), "b": (Y, X), "c": (Z, Z)})
        self.assertEqual(-(-change), change)
        self.assertEqual((change + -change).rows, {"a": (None, None), "a/b": (X, X), "b": (X, X), "c": (Z, Z)})
        self.assertEqual((change + -change).plain(), Change({}))
        self.assertEqual(change + -change + change, change)
        other = Change({"a": (X, Y), "d": (X, Z)})
        self.assertEqual(-(change + other), -other + -change)
        self.assertEqual(list((-change).rows), ["a", "a/b", "b", "c"])

    def test_wrong_operands(self):
        change = Change({"a": (None, X)})
        for thing in [*no_changes(), change.rows]:
            self.assert_error(BadChange, lambda: change + thing)
            self.assert_error(BadChange, change.is_apart, thing)


class On(Case):
    def test_ordinary_ones(self):
        change = Change({"b": (X, Y), "a": (None, X), "c": (X, None), "d": (Y, Y), "e": (None, None)})
        files = {"d": Y, "c": X, "b": X, "z": Z}
        self.assertEqual(list(change.on(files).items()), [("a", X), ("b", Y), ("d", Y), ("z", Z)])
        self.assertEqual(list(files), ["d", "c", "b", "z"])
        self.assertEqual(change.on(files=files), {"a": X, "b": Y, "d": Y, "z": Z})
        self.assertEqual(Change({}).on({}), {})
        self.assertEqual(Change({}).on({"b": X, "a": X}), {"a": X, "b": X})
        change.on(files)["x"] = 1
        self.assertEqual(change.on(files), {"a": X, "b": Y, "d": Y, "z": Z})

    def test_there_and_back(self):
        numbers = chance(23)
        paths = ("a", "b", "c/d", "c/e", "f-", "f.")
        for _ in range(200):
            old, new, last = [{path: value for path in paths if (value := VALUES[next(numbers) % 4])} for _ in range(3)]
            change = Change.between(old, new)
            self.assertEqual(change.on(old), new)
            self.assertEqual((-change).on(new), old)
            self.assertEqual((change + Change.between(new, last)).on(old), last)
            self.assertEqual((change + Change.between(new, last)).plain(), Change.between(old, last))

    def test_what_is_no_files(self):
        for wrong in no_files():
            self.assert_error(BadPath, Change({"a": (X, Y)}).on, wrong)
            self.assert_error(BadPath, Change({}).on, wrong)

    def test_other_old_values(self):
        change = Change({"b": (X, Y), "a": (None, X), "c": (X, None), "a-": (X, X), "n": (None, None)})
        self.assert_error(Conflict, change.on, {"a": X, "n": X}, paths=("a", "a-", "b", "c", "n"))
        self.assert_error(Conflict, change.on, {"a-": X, "b": Z, "c": X}, paths=("b",))
        self.assert_error(Conflict, change.on, {"a-": Y, "b": X, "c": X}, paths=("a-",))
        self.assert_error(Conflict, change.on, {"a-": X, "b": X}, paths=("c",))
        self.assertEqual(change.on({"a-": X, "b": X, "c": X}), {"a": X, "a-": X, "b": Y})

    def test_paths_above_one_another(self):
        change = Change({"a/b": (None, X)})
        self.assert_error(Conflict, change.on, {"a": X, "b": X}, paths=("a", "a/b"))
        self.assert_error(Conflict, change.on, {"a/b/c": X, "a-": X, "a/b-": X}, paths=("a/b", "a/b/c"))
        self.assert_error(Conflict, change.on, {"a": X, "a/b/c/d": X, "a/c": X}, paths=("a", "a/b", "a/b/c/d", "a/c"))
        self.assertEqual(Change({"a": (X, None), "a/b": (None, X)}).on({"a": X}), {"a/b": X})
        self.assertEqual(Change({"a": (None, X), "a/b": (X, None)}).on({"a/b": X}), {"a": X})
        self.assert_error(Conflict, Change({"a": (None, X), "a/b": (X, Y)}).on, {"a/b": X}, paths=("a", "a/b"))

    def test_files_that_clash_before(self):
        clash = {"a": X, "a/b": X}
        self.assert_error(Conflict, Change({}).on, clash, paths=("a", "a/b"))
        self.assertEqual(Change({"a": (X, None)}).on(clash), {"a/b": X})
        self.assert_error(Conflict, Change({"a": (Y, None)}).on, clash, paths=("a",))

    def test_other_values_go_ahead_of_clashes(self):
        self.assert_error(Conflict, Change({"a/b": (None, X), "c": (X, Y)}).on, {"a": X}, paths=("c",))

    def test_what_was_given_stays_the_callers(self):
        change = Change({"a": (None, X)})
        with self.assertRaises(Conflict) as caught:
            change.on({"a": X})
        self.assertIs(type(caught.exception.paths), tuple)


class Apart(Case):
    def test_it(self):
        rows = [("a", "b", True), ("a", "a", False), ("a", "a/b", False), ("a/b/c", "a", False), ("a", "a-", True),
                ("a", "ab", True), ("a/b", "a/c", True), ("a/b", "a/b.", True), ("a/b", "a/b/c/d", False), ("b/a", "a", True)]
        for one, other, wanted in rows:
            for old, new in ((X, Y), (X, X), (None, None)):
                first, second = Change({one: (old, new)}), Change({other: (X, Y)})
                self.assertIs(first.is_apart(second), wanted, (one, other))
                self.assertIs(second.is_apart(other=first), wanted, (one, other))
        self.assertIs(Change({}).is_apart(Change({})), True)
        self.assertIs(Change({}).is_apart(Change({"a": (X, Y)})), True)
        self.assertIs(Change({"a": (X, Y), "b": (X, Y)}).is_apart(Change({"c": (X, Y), "b/x": (X, Y)})), False)

    def outcome(self, files, *changes):
        try:
            for change in changes:
                files = change.on(files)
        except Conflict:
            return None
        return files

    def test_either_order(self):
        numbers = chance(31)
        paths = ("a", "a/b", "a-", "b", "b/c", "b/c/d")
        done = 0
        for _ in range(3000):
            files = {path: value for path in ("a", "a-", "b/c", "d") if (value := VALUES[next(numbers) % 4])}
            one, other = [Change({path: (files.get(path) if next(numbers) % 8 else Y, VALUES[next(numbers) % 4])
                                  for path in paths if next(numbers) % 3 == 0}) for _ in range(2)]
            if one.is_apart(other):
                result = self.outcome(files, one, other)
                self.assertEqual(self.outcome(files, other, one), result)
                done += result is not None
        self.assertTrue(done > 30)


if __name__ == "__main__":
    unittest.main()
