"""[15.1], [15.2] Disks and crashes."""

import unittest

from forkhaul.disk import Disk
from forkhaul.errors import BadCommand, BadName, Crash, NoObject
from tests.helpers import Case, chance, odd_things

NO_COUNTS = [thing for thing in odd_things() if not (isinstance(thing, int) and not isinstance(thing, bool) and thing >= 0)]
NO_TEXTS = [thing for thing in odd_things() if not isinstance(thing, str)]
NO_BYTES = [thing for thing in odd_things() if not isinstance(thing, bytes)]


def content(disk):
    return {name: disk.read(name) for name in disk.names()}


class Plain:
    """A disk, worked out by what was done to it: for each name what was written, what is safe, and since when not."""

    def __init__(self):
        self.rows = []

    def find(self, name):
        return [row for row in self.rows if row["name"] == name][0]

    def take(self, word, *arguments):
        getattr(self, word)(*arguments)

    def write(self, name, data):
        if name not in [row["name"] for row in self.rows]:
            self.rows.append({"name": name, "safe": None})
        self.find(name).update(now=data, lost=True)

    def sync(self, name):
        row = self.find(name)
        row.update(safe=row["now"], lost=False)

    def rename(self, old, new):
        if old != new:
            self.rows = [row for row in self.rows if row["name"] != new]
            self.find(old)["name"] = new

    def remove(self, name):
        self.rows = [row for row in self.rows if row["name"] != name]

    def crashed(self, mask):
        files = {}
        for row in sorted(self.rows, key=lambda row: row["name"]):
            kept = row["now"]
            if row["lost"]:
                mask, rest = divmod(mask, 3)
                kept = [row["safe"], kept[:len(kept) // 2], kept][rest]
            if kept is not None:
                files[row["name"]] = kept
        return files


class Calls(Case):
    def full(self):
        disk = Disk()
        for name in ("b", "", "a", "B/\n\u00e9"):
            disk.write(name, name.encode())
        return disk

    def test_a_new_disk(self):
        disk = Disk()
        self.assertEqual((disk.names(), disk.left), ((), None))

    def test_write_read_and_names(self):
        disk = self.full()
        self.assertEqual(disk.names(), ("", "B/\n\u00e9", "a", "b"))
        self.assertIs(type(disk.names()), tuple)
        self.assertEqual(disk.read("b"), b"b")
        self.assertEqual(disk.read(name=""), b"")
        self.assertIsNone(disk.write(name="a", data=b"other"))
        self.assertEqual(disk.read("a"), b"other")
        self.assertEqual(len(disk.names()), 4)

    def test_sync_changes_no_content(self):
        disk = self.full()
        before = content(disk)
        self.assertIsNone(disk.sync(name="a"))
        self.assertEqual(content(disk), before)

    def test_rename(self):
        disk = self.full()
        self.assertIsNone(disk.rename(old="a", new="c"))
        self.assertEqual(content(disk), {"": b"", "B/\n\u00e9": b"B/\n\xc3\xa9", "b": b"b", "c": b"a"})
        disk.rename("c", "b")
        self.assertEqual(content(disk), {"": b"", "B/\n\u00e9": b"B/\n\xc3\xa9", "b": b"a"})
        disk.rename("b", "b")
        self.assertEqual(disk.read("b"), b"a")
        self.assert_error(NoObject, disk.read, "c", name="c")

    def test_remove(self):
        disk = self.full()
        self.assertIsNone(disk.remove("a"))
        self.assertEqual(disk.names(), ("", "B/\n\u00e9", "b"))
        self.assert_error(NoObject, disk.read, "a", name="a")
        self.assert_error(NoObject, disk.remove, "a", name="a")

    def test_wrong_names_and_contents(self):
        disk = self.full()
        before = content(disk)
        for thing in NO_TEXTS:
            for call in (disk.read, disk.remove, disk.sync):
                self.assert_error(BadName, call, thing)
            self.assert_error(BadName, disk.write, thing, b"x")
            self.assert_error(BadName, disk.rename, thing, "a")
            self.assert_error(BadName, disk.rename, "a", thing)
            self.assert_error(BadName, disk.rename, "absent", thing)
        for thing in NO_BYTES:
            self.assert_error(BadName, disk.write, "a", thing)
            self.assert_error(BadName, disk.write, "absent", thing)
        for call in (disk.read, disk.remove, disk.sync):
            self.assert_error(NoObject, call, "absent", name="absent")
        self.assert_error(NoObject, disk.rename, "absent", "a", name="absent")
        self.assertEqual(content(disk), before)
        self.assertEqual(content(disk.crashed(3 ** 4 - 1)), before)


class Steps(Case):
    def test_left_at_each_number(self):
        calls = (("write", "a", b"x"), ("sync", "a"), ("rename", "a", "b"), ("write", "a", b"y"), ("remove", "b"),
                 ("rename", "a", "a"))
        for many in range(len(calls) + 2):
            disk = Disk(left=many)
            plain = Plain()
            for at, (word, *arguments) in enumerate(calls):
                call = getattr(disk, word)
                if at < many:
                    call(*arguments)
                    plain.take(word, *arguments)
                    self.assertEqual(disk.left, many - at - 1)
                elif word == "write" or arguments[0] in disk.names():
                    before = content(disk)
                    self.assert_error(Crash, call, *arguments)
                    self.assertEqual((content(disk), disk.left), (before, 0))
            for mask in range(27):
                self.assertEqual(content(disk.crashed(mask)), plain.crashed(mask))

    def test_limit(self):
        disk = Disk(left=1)
        disk.write("a", b"x")
        self.assert_error(Crash, disk.sync, "a")
        self.assertIsNone(disk.limit(left=2))
        self.assertEqual(disk.left, 2)
        disk.sync("a")
        disk.limit(None)
        self.assertIsNone(disk.left)
        for _ in range(5):
            disk.write("a", b"y")
        self.assertIsNone(disk.left)
        disk.limit(0)
        self.assert_error(Crash, disk.write, "a", b"z")
        self.assertEqual(disk.read("a"), b"y")
        disk.limit(10 ** 30)
        disk.write("a", b"z")
        self.assertEqual(disk.left, 10 ** 30 - 1)

    def test_reading_is_no_step(self):
        disk = Disk()
        disk.write("a", b"x")
        disk.limit(0)
        self.assertEqual((disk.read("a"), disk.names(), disk.left), (b"x", ("a",), 0))
        self.assertEqual(content(disk.crashed(2)), {"a": b"x"})

    def test_other_errors_are_no_steps_and_go_ahead(self):
        for left in (0, 1, 5):
            disk = Disk()
            disk.write("a", b"x")
            disk.limit(left)
            self.assert_error(NoObject, disk.sync, "b", name="b")
            self.assert_error(NoObject, disk.remove, "b", name="b")
            self.assert_error(NoObject, disk.rename, "b", "a", name="b")
            self.assert_error(BadName, disk.rename, "a", None)
            self.assert_error(BadName, disk.write, "a", "x")
            self.assert_error(BadName, disk.write, 1, b"x")
            self.assert_error(BadName, disk.sync, b"a")
            self.assert_error(BadName, disk.remove, ["a"])
            self.assertEqual(disk.left, left)

    def test_wrong_numbers(self):
        for thing in NO_COUNTS:
            if thing is not None:
                self.assert_error(BadCommand, lambda thing=thing: Disk(left=thing))
                disk = Disk(left=3)
                self.assert_error(BadCommand, disk.limit, thing)
                self.assertEqual(disk.left, 3)
            self.assert_error(BadCommand, Disk().crashed, thing)


class Crashes(Case):
    def test_the_three_outcomes(self):
        disk = Disk()
        disk.write("a", b"abcde")
        disk.write("b", b"1")
        disk.sync("b")
        disk.write("b", b"123456")
        self.assertEqual(content(disk.crashed(0)), {"b": b"1"})
        self.assertEqual(content(disk.crashed(1)), {"a": b"ab", "b": b"1"})
        self.assertEqual(content(disk.crashed(2)), {"a": b"abcde", "b": b"1"})
        self.assertEqual(content(disk.crashed(3)), {"b": b"123"})
        self.assertEqual(content(disk.crashed(mask=7)), {"a": b"ab", "b": b"123456"})
        self.assertEqual(content(disk.crashed(8)), {"a": b"abcde", "b": b"123456"})
        self.assertEqual(content(disk.crashed(9 * 10 ** 30 + 8)), {"a": b"abcde", "b": b"123456"})
        self.assertEqual(content(disk), {"a": b"abcde", "b": b"123456"})

    def test_a_content_written_again_as_it_was(self):
        disk = Disk()
        disk.write("a", b"abc")
        disk.sync("a")
        disk.write("a", b"abc")
        disk.write("b", b"xy")
        self.assertEqual(content(disk.crashed(4)), {"a": b"a", "b": b"x"})
        self.assertEqual(content(disk.crashed(3)), {"a": b"abc", "b": b"x"})

    def test_short_contents(self):
        disk = Disk()
        disk.write("a", b"")
        disk.write("b", b"x")
        self.assertEqual(content(disk.crashed(4)), {"a": b"", "b": b""})
        self.assertEqual(content(disk.crashed(0)), {})

    def test_renames_take_the_content_along(self):
        disk = Disk()
        disk.write("new", b"old safe")
        disk.sync("new")
        disk.write("temp", b"12")
        disk.rename("temp", "new")
        self.assertEqual(content(disk.crashed(0)), {})
        self.assertEqual(content(disk.crashed(1)), {"new": b"1"})
        disk.write("temp", b"safe")
        disk.sync("temp")
        disk.write("temp", b"abcd")
        disk.rename("temp", "new")
        self.assertEqual([content(disk.crashed(mask)) for mask in range(3)],
                         [{"new": b"safe"}, {"new": b"ab"}, {"new": b"abcd"}])

    def test_a_rename_onto_itself(self):
        disk = Disk()
        disk.write("a", b"safe")
        disk.sync("a")
        disk.write("a", b"12")
        disk.rename("a", "a")
        self.assertEqual([content(disk.crashed(mask)) for mask in range(3)],
                         [{"a": b"safe"}, {"a": b"1"}, {"a": b"12"}])

    def test_the_present_names_count(self):
        disk = Disk()
        disk.write("a", b"1111")
        disk.write("b", b"2222")
        disk.rename("a", "c")
        self.assertEqual(content(disk.crashed(1)), {"b": b"22"})
        self.assertEqual(content(disk.crashed(3)), {"c": b"11"})

    def test_a_file_behind_a_removal_never_had_a_safe_content(self):
        disk = Disk()
        disk.write("a", b"safe")
        disk.sync("a")
        disk.remove("a")
        self.assertEqual(content(disk.crashed(0)), {})
        disk.write("a", b"new")
        self.assertEqual(content(disk.crashed(0)), {})
        disk.write("b", b"safe")
        disk.sync("b")
        disk.rename("b", "c")
        disk.write("b", b"new")
        self.assertEqual(content(disk.crashed(0)), {"c": b"safe"})

    def test_everything_is_safe_behind_a_crash(self):
        disk = Disk(left=7)
        disk.write("a", b"abcd")
        crashed = disk.crashed(1)
        self.assertIs(type(crashed), Disk)
        self.assertIsNone(crashed.left)
        for mask in range(3):
            self.assertEqual(content(crashed.crashed(mask)), {"a": b"ab"})
        self.assertEqual((content(disk), disk.left), ({"a": b"abcd"}, 6))

    def test_the_disks_go_their_own_ways(self):
        disk = Disk()
        disk.write("a", b"abcd")
        crashed = disk.crashed(2)
        crashed.write("a", b"x")
        crashed.write("b", b"y")
        disk.remove("a")
        self.assertEqual((content(disk), content(crashed)), ({}, {"a": b"x", "b": b"y"}))

    def test_drawn_rows_of_steps_with_each_mask(self):
        numbers = chance(15)
        for _ in range(60):
            disk, plain = Disk(), Plain()
            for _ in range(next(numbers) % 14 + 1):
                names = list(disk.names())
                word = ("write", "write", "sync", "rename", "remove")[next(numbers) % 5]
                if word == "write":
                    arguments = ("abcd"[next(numbers) % 4], b"12345"[:next(numbers) % 6])
                elif not names:
                    continue
                else:
                    arguments = (names[next(numbers) % len(names)],)
                if word == "rename":
                    arguments = (*arguments, "abcd"[next(numbers) % 4])
                getattr(disk, word)(*arguments)
                plain.take(word, *arguments)
                for mask in range(81):
                    self.assertEqual(content(disk.crashed(mask)), plain.crashed(mask))


if __name__ == "__main__":
    unittest.main()
