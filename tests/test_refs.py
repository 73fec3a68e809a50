"""[6.1] References, HEAD and states; [6.2] logs."""

import unittest

from forkhaul.errors import BadName, BadRef, NoRef
from forkhaul.refs import Refs
from tests.helpers import MOST, ONE, TWO, ZERO, Case, odd_things

NO_COUNTS = [-1, True, False, 1.0, 0.0, "1", "", None, [], {}, (), (1,), -10 ** 20, float("nan"), 1j, b"1"]
ENTRY = (None, ONE, "ann", 1, "made")


def set_refs(refs, time=1, message="", **ids):
    """Set references to ids, or delete those that get None."""
    edit = refs.edit("ann", time, message)
    for ref in ids:
        if ids[ref] is None:
            edit.delete(ref)
        else:
            edit.point(ref, ids[ref])
    edit.finish()


class References(Case):
    def full(self):
        refs = Refs()
        edit = refs.edit("ann", 1, "")
        for ref, name in (("main", ONE), ("b/c", TWO), ("b/a", ZERO), ("b-", MOST), ("0", ONE)):
            edit.point(ref, name)
        edit.finish()
        return refs

    def test_new_ones(self):
        for refs in (Refs(), Refs(None), Refs(state=None)):
            self.assertEqual((len(refs), refs.names(), refs.head(), refs.at_head()), (0, (), ("ref", "main"), None))
            self.assertEqual(refs.log("HEAD"), [])
            self.assertEqual(refs.state(), ((), ("ref", "main"), ()))

    def test_asking(self):
        refs = self.full()
        self.assertEqual((refs["main"], refs["b/c"], refs["b-"]), (ONE, TWO, MOST))
        self.assertEqual(len(refs), 5)
        self.assertEqual(refs.names(), ("0", "b-", "b/a", "b/c", "main"))
        self.assertIs("b/a" in refs, True)

    def test_asking_for_any_object(self):
        refs = self.full()
        for thing in [*odd_things(), "b", "b/", "mai", "main/", "HEAD", ONE, ("main",), b"main", "Main", "other"]:
            self.assertIs(thing in refs, False)
            self.assert_error(NoRef, lambda: refs[thing], name=thing)

    def test_they_are_not_iterated_over(self):
        self.assertRaises(TypeError, iter, self.full())

    def test_head(self):
        refs = self.full()
        self.assertEqual((refs.head(), refs.at_head()), (("ref", "main"), ONE))
        edit = refs.edit("ann", 2, "")
        edit.stand("id", MOST)
        edit.finish()
        self.assertEqual((refs.head(), refs.at_head()), (("id", MOST), MOST))
        edit = refs.edit("ann", 2, "")
        edit.stand("ref", "none/yet")
        edit.finish()
        self.assertEqual((refs.head(), refs.at_head()), (("ref", "none/yet"), None))

    def test_forty_references(self):
        refs = Refs()
        edit = refs.edit("ann", 1, "")
        for number in range(40):
            edit.point(f"r{number}", ONE)
        edit.finish()
        self.assertEqual(refs.names(), tuple(sorted([f"r{number}" for number in range(40)])))


class States(Case):
    def test_its_parts(self):
        refs = Refs()
        set_refs(refs, 1, "a", main=ONE, b=TWO)
        set_refs(refs, 2, "b", b=None)
        head = (None, ONE, "ann", 1, "a")
        self.assertEqual(refs.state(), (
            (("main", ONE),), ("ref", "main"),
            (("HEAD", (head,)), ("b", ((None, TWO, "ann", 1, "a"), (TWO, None, "ann", 2, "b"))), ("main", (head,)))))
        rows, _, logs = refs.state()
        for thing in (refs.state(), rows, logs, *rows, *logs, *[row[1] for row in logs]):
            self.assertIs(type(thing), tuple)

    def test_there_and_back(self):
        refs = Refs()
        set_refs(refs, 1, "a", main=ONE, b=TWO, c=ONE)
        set_refs(refs, 2, "two\nlines", b=None, c=MOST)
        edit = refs.edit("bob", 3, "")
        edit.stand("id", ZERO)
        edit.finish()
        edit = refs.edit("bob", 3, "")
        edit.point("far/a/b/c/d/e/f", ONE)
        edit.finish()
        other = Refs(state=refs.state())
        self.assertEqual(other.state(), refs.state())
        self.assertEqual((other.names(), other.head(), other.at_head()), (refs.names(), ("id", ZERO), ZERO))
        for name in ("HEAD", "b", "c"):
            self.assertEqual(other.log(name), refs.log(name))
        set_refs(other, 9, "z", main=TWO)
        self.assertEqual(refs["main"], ONE)
        self.assertNotEqual(other.state(), refs.state())

    def test_no_open_edits_come_along(self):
        refs = Refs()
        edit = refs.edit("ann", 1, "")
        edit.point("main", ONE)
        edit.stand("id", TWO)
        other = Refs(refs.state())
        another = other.edit("bob", 1, "")
        another.point("main", TWO)
        another.stand("ref", "a")
        another.finish()
        self.assertEqual((other["main"], other.head()), (TWO, ("ref", "a")))
        edit.finish()
        self.assertEqual((refs["main"], refs.head()), (ONE, ("id", TWO)))

    def test_what_is_a_state(self):
        head = ("ref", "main")
        for state in (((), head, ()), ((), ("id", ONE), ()), ((), ("ref", "far/a/b/c/d/e/f"), ()),
                      ((("a", ONE), ("a-", ONE), ("a0/b", ONE), ("b", ONE)), head, ()),
                      ((("a/b", ONE), ("a0", TWO), ("main/x", ONE)), head, ()),
                      ((), head, (("-", (ENTRY,)), ("0", (ENTRY,)), ("HEAD", (ENTRY,)), ("a", (ENTRY, ENTRY)))),
                      ((), head, (("a", (ENTRY,)), ("a/b", (ENTRY,)))),
                      ((), head, (("a", ((None, None, "-", 0, "\n" * 200),)),)),
                      ((), head, (("a", ((ONE, TWO, "abcdefghijkl", 10 ** 12, ""),)),))):
            self.assertEqual(Refs(state).state(), state)

    def wrong_rows(self):
        return [[], [("a", ONE)], {}, {"a": ONE}, None, "", 0, ("a", ONE), (("a",),), (("a", ONE, ONE),), (["a", ONE],),
                (("a", None),), (("a", ONE[1:]),), (("a", []),), (("A", ONE),), (("", ONE),), ((None, ONE),),
                (([], ONE),), ((1, ONE),), ((b"a", ONE),), (("HEAD", ONE),), (("b", ONE), ("a", ONE)),
                (("a", ONE), ("a", ONE)), (("a", ONE), ("a", TWO)), (("a", ONE), ("a/b", ONE)),
                (("a", ONE), ("a-b", ONE), ("a/b/c", ONE)), (("a/b/c/d/e/f", ONE),), (("a", ONE), None), "ab", b"ab",
                (("b/c", ONE), ("b/c/d", ONE))]

    def wrong_heads(self):
        return [None, (), "main", ("ref",), ("ref", "main", 1), ["ref", "main"], ("id", "main"), ("Ref", "main"),
                ("main", "ref"), ("ref", "Main"), ("ref", ""), ("ref", None), ("id", ONE[1:]), ("id", None), ("id", []),
                ([], []), (None, "main"), ("tag", ONE), {"ref": "main"}, ("ref", "HEAD"), ("id", "A" * 16),
                ("ref", "a/b/c/d/e/f")]

    def wrong_entries(self):
        return [None, [], ENTRY[:4], ENTRY + ("",), list(ENTRY), (1, ONE, "ann", 1, ""), ("", ONE, "ann", 1, ""),
                (ONE, "", "ann", 1, ""), (ONE, ONE[1:], "ann", 1, ""), (ONE, [], "ann", 1, ""),
                (ONE, TWO, "a/b", 1, ""), (ONE, TWO, "Ann", 1, ""), (ONE, TWO, "", 1, ""), (ONE, TWO, None, 1, ""),
                (ONE, TWO, "ann", -1, ""), (ONE, TWO, "ann", 10 ** 12 + 1, ""), (ONE, TWO, "ann", True, ""),
                (ONE, TWO, "ann", "1", ""), (ONE, TWO, "ann", 1.0, ""), (ONE, TWO, "ann", 1, "a" * 201),
                (ONE, TWO, "ann", 1, "\t"), (ONE, TWO, "ann", 1, None), (False, ONE, "ann", 1, ""), "abcde",
                (ONE, TWO, "a" * 13, 1, ""), (ONE, TWO, "a.b", 1, "")]

    def wrong_logs(self):
        one = (ENTRY,)
        entries = [(("a", (entry,)),) for entry in self.wrong_entries()]
        entries += [(("a", (ENTRY, entry)),) for entry in self.wrong_entries()]
        return entries + [
            [], [("a", one)], {"a": one}, None, 0, ("a", one), (("a",),), (("a", one, one),), (["a", one],),
            (("a", ()),), (("a", one), ("b", ())), (("a", [ENTRY]),), (("a", None),), (("a", ENTRY),),
            (("A", one),), (("head", one), ("HEAD", one)), (("a", one), ("HEAD", one)), (("b", one), ("a", one)),
            (("a", one), ("a", one)), ((None, one),), (([], one),), (("", one),), (("a", one), 1), (("HEAD/a", one),)]

    def test_what_is_no_state(self):
        head = ("ref", "main")
        for thing in [*odd_things(), ((), head), ((), head, (), ()), [(), head, ()], {"a": ONE}, "abc", (1, 2, 3)]:
            if thing is not None:
                self.assert_error(BadName, Refs, thing)
        for rows in self.wrong_rows():
            self.assert_error(BadName, Refs, (rows, head, ()))
        for wrong in self.wrong_heads():
            self.assert_error(BadName, Refs, ((), wrong, ()))
        for logs in self.wrong_logs():
            self.assert_error(BadName, Refs, ((), head, logs))
        for thing in odd_things():
            if thing != ():
                self.assert_error(BadName, Refs, (thing, head, ()))
                self.assert_error(BadName, Refs, ((), head, thing))
                self.assert_error(BadName, Refs, ((thing,), head, ()))
                self.assert_error(BadName, Refs, ((), head, (thing,)))
            self.assert_error(BadName, Refs, ((), thing, ()))
            self.assert_error(BadName, Refs, (((thing, ONE),), head, ()))
            self.assert_error(BadName, Refs, ((("a", thing),), head, ()))
            self.assert_error(BadName, Refs, ((), head, (("a", thing),)))


class Logs(Case):
    def full(self):
        refs = Refs()
        set_refs(refs, 10, "first", main=ONE)
        set_refs(refs, 20, "second", main=TWO)
        set_refs(refs, 30, "gone", main=None)
        set_refs(refs, 40, "again", main=MOST, side=ONE)
        return refs

    def test_entries(self):
        refs = self.full()
        entries = [(None, ONE, "ann", 10, "first"), (ONE, TWO, "ann", 20, "second"), (TWO, None, "ann", 30, "gone"),
                   (None, MOST, "ann", 40, "again")]
        self.assertEqual(refs.log("main"), entries)
        self.assertEqual(refs.log(name="HEAD"), entries)
        self.assertEqual(refs.log("side"), [(None, ONE, "ann", 40, "again")])
        self.assertEqual(refs.log("other"), [])
        self.assertEqual(refs.log("main/below"), [])
        self.assertIs(type(refs.log("main")), list)
        self.assertEqual([type(entry) for entry in refs.log("main")], [tuple] * 4)

    def test_they_stay_when_it_is_deleted(self):
        refs = self.full()
        set_refs(refs, 50, "", side=None)
        self.assertFalse("side" in refs)
        self.assertEqual(refs.log("side"), [(None, ONE, "ann", 40, "again"), (ONE, None, "ann", 50, "")])

    def test_results_belong_to_the_caller(self):
        refs = self.full()
        refs.log("main").append(ENTRY)
        refs.log("main").clear()
        refs.log("other").append(ENTRY)
        self.assertEqual((len(refs.log("main")), refs.log("other")), (4, []))

    def test_wrong_names(self):
        refs = self.full()
        for thing in [*odd_things(), "head/", "Main", "HEAD/a", "HEAD ", "a.b", "a/b/c/d/e/f", b"HEAD", ["HEAD"]]:
            self.assert_error(BadRef, refs.log, thing)
            self.assert_error(BadRef, refs.back, thing, 0)
            self.assert_error(BadRef, refs.back, thing, None)

    def test_back(self):
        refs = self.full()
        for name in ("main", "HEAD"):
            self.assertEqual([refs.back(name, n) for n in range(7)], [MOST, None, TWO, ONE, None, None, None])
        self.assertEqual([refs.back("side", n) for n in range(4)], [ONE, None, None, None])
        self.assertEqual([refs.back(name="other", n=n) for n in range(3)], [None, None, None])
        self.assertIsNone(refs.back("main", 10 ** 30))

    def test_back_to_the_old_id_of_the_oldest_entry(self):
        entries = ((ONE, TWO, "ann", 1, ""), (TWO, MOST, "b", 2, ""))
        refs = Refs(((("main", MOST),), ("ref", "main"), (("main", entries),)))
        self.assertEqual([refs.back("main", n) for n in range(5)], [MOST, TWO, ONE, None, None])
        self.assertEqual([refs.back("HEAD", n) for n in range(2)], [None, None])

    def test_back_does_not_ask_the_reference(self):
        refs = Refs(((("main", MOST),), ("ref", "main"), (("main", ((ONE, TWO, "ann", 1, ""),)),)))
        self.assertEqual([refs.back("main", n) for n in range(3)], [TWO, ONE, None])

    def test_wrong_numbers(self):
        refs = self.full()
        for n in NO_COUNTS:
            self.assert_error(BadName, refs.back, "main", n)
            self.assert_error(BadName, refs.back, "other", n)
            self.assert_error(BadName, lambda: refs.expire(n, age=1))
            self.assert_error(BadName, lambda: refs.expire(1, age=n))
        for thing in odd_things():
            if not isinstance(thing, int) or isinstance(thing, bool) or thing < 0:
                self.assert_error(BadName, refs.back, "main", thing)
                self.assert_error(BadName, lambda: refs.expire(thing, age=1))
                self.assert_error(BadName, lambda: refs.expire(1, age=thing))
        self.assertRaises(TypeError, refs.expire, 1, 1)
        self.assertEqual(len(refs.log("main")), 4)

    def test_expire(self):
        refs = self.full()
        self.assertEqual(refs.expire(40, age=30), 0)
        self.assertEqual(refs.expire(0, age=0), 0)
        self.assertEqual(refs.expire(41, age=30), 2)
        self.assertEqual([entry[3] for entry in refs.log("main")], [20, 30, 40])
        self.assertEqual([entry[3] for entry in refs.log("HEAD")], [20, 30, 40])
        self.assertEqual(refs.back("main", 3), ONE)
        self.assertEqual(refs.expire(now=31, age=0), 4)
        self.assertEqual([refs.log(name) for name in ("main", "HEAD", "side")],
                         [[(None, MOST, "ann", 40, "again")]] * 2 + [[(None, ONE, "ann", 40, "again")]])
        self.assertEqual(refs.expire(10 ** 30, age=10 ** 12), 3)
        self.assertEqual((refs.log("main"), refs.log("HEAD"), refs.state()[2]), ([], [], ()))
        self.assertEqual(refs.names(), ("main", "side"))
        self.assertEqual(refs.at_head(), MOST)

    def test_expire_looks_at_each_entry(self):
        refs = Refs()
        for time, name in ((50, ONE), (10, TWO), (60, MOST), (5, ZERO)):
            set_refs(refs, time, "", side=name)
        self.assertEqual(refs.expire(60, age=20), 2)
        self.assertEqual([entry[3] for entry in refs.log("side")], [50, 60])

    def test_expire_keeps_logs_of_deleted_references_too(self):
        refs = self.full()
        set_refs(refs, 50, "", side=None)
        self.assertEqual(refs.expire(50, age=0), 4 + 4 + 1)
        self.assertEqual(refs.log("side"), [(ONE, None, "ann", 50, "")])
        self.assertEqual(refs.state()[2], (("side", ((ONE, None, "ann", 50, ""),)),))


if __name__ == "__main__":
    unittest.main()
