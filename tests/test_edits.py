"""[6.3] and [6.4] Edits of references."""

import unittest

from forkhaul.errors import BadCommand, BadName, BadRef, Locked, Stale
from forkhaul.refs import Refs
from tests.helpers import MOST, ONE, TWO, ZERO, Case, odd_things

NO_REFS = ["", "A", "HEAD", "a.b", "a_b", "a/", "/a", "a//b", "a/b/c/d/e/f", "a" * 13, "far/a/b/c/d/e/f/g", "a\n", b"a",
           None, 1, True, [], {}, ("a",), "a b"]
NO_IDS = [ONE[1:], ONE + "1", "A" * 16, "g" * 16, ONE[:15] + "\n", ONE.encode(), 1, True, [], {}, (), (ONE,)]


class Editing(Case):
    def setUp(self):
        self.refs = Refs()
        self.change(main=ONE, a=TWO)

    def edit(self, who="ann", time=5, message="m"):
        return self.refs.edit(who, time, message)

    def change(self, **ids):
        edit = self.refs.edit("zoe", 1, "before")
        for ref in ids:
            edit.point(ref, ids[ref])
        edit.finish()

    def assert_still(self, state):
        self.assertEqual(self.refs.state(), state)


class Opening(Editing):
    def test_arguments(self):
        for who in ("a", "0", "-", "far", "abcdefghijkl"):
            self.refs.edit(who, 0, "").drop()
        self.refs.edit(who="ann", time=10 ** 12, message="\n" * 200).drop()

    def test_wrong_arguments(self):
        for who in NO_REFS + ["a/b", "far/a"] + odd_things():
            self.assert_error(BadName, self.refs.edit, who, 1, "")
        for time in [-1, 10 ** 12 + 1, True, 1.0, "1", None, [], {}, ()]:
            self.assert_error(BadName, self.refs.edit, "ann", time, "")
        for message in ["a" * 201, "\t", "\u00e9", None, 1, b"", [], {}, ("a",)]:
            self.assert_error(BadName, self.refs.edit, "ann", 1, message)
        for thing in odd_things():
            if not isinstance(thing, int) or isinstance(thing, bool):
                self.assert_error(BadName, self.refs.edit, "ann", thing, "")
            if not isinstance(thing, str):
                self.assert_error(BadName, self.refs.edit, "ann", 1, thing)

    def test_opening_locks_nothing(self):
        edits = [self.edit() for _ in range(3)]
        edits[2].point("main", TWO)
        edits[2].finish()
        self.assertEqual(self.refs["main"], TWO)


class Noting(Editing):
    def test_nothing_is_visible_before_finish(self):
        before = self.refs.state()
        edit = self.edit()
        edit.point("main", TWO)
        edit.point("new", TWO)
        edit.delete("a")
        edit.stand("id", MOST)
        edit.moves()
        edit.behind()
        self.assert_still(before)
        edit.finish()
        self.assertEqual(self.refs.state()[:2], ((("main", TWO), ("new", TWO)), ("id", MOST)))

    def test_they_return_none(self):
        edit = self.edit()
        self.assertIsNone(edit.point("main", TWO))
        self.assertIsNone(edit.delete("a"))
        self.assertIsNone(edit.stand("ref", "main"))
        self.assertIsNone(edit.finish())
        self.assertIsNone(self.edit().drop())

    def test_by_name(self):
        edit = self.edit()
        edit.point(ref="main", new=TWO, old=ONE)
        edit.delete(ref="a", old=TWO)
        edit.stand(word="id", name=MOST)
        edit.finish()
        self.assertEqual(self.refs.state()[:2], ((("main", TWO),), ("id", MOST)))
        self.assertRaises(TypeError, self.edit().point, "main", TWO, ONE)
        self.assertRaises(TypeError, self.edit().delete, "a", TWO)

    def test_wrong_references(self):
        edit = self.edit()
        for ref in NO_REFS + odd_things():
            self.assert_error(BadRef, edit.point, ref, ONE)
            self.assert_error(BadRef, edit.point, ref, None)
            self.assert_error(BadRef, lambda: edit.point(ref, ONE, old=0))
            self.assert_error(BadRef, edit.delete, ref)
            self.assert_error(BadRef, lambda: edit.delete(ref, old=0))
            self.assert_error(BadRef, edit.stand, "ref", ref)
        self.assertEqual(edit.moves(), ())

    def test_wrong_ids(self):
        edit = self.edit()
        for name in NO_IDS + ["", None] + odd_things():
            self.assert_error(BadName, edit.point, "main", name)
            self.assert_error(BadName, edit.stand, "id", name)
        for old in [*NO_IDS, *odd_things(), " ", "main", 0, False, b""]:
            if old is not None and old != "":
                self.assert_error(BadName, lambda: edit.point("main", TWO, old=old))
                self.assert_error(BadName, lambda: edit.delete("main", old=old))
        self.assertEqual(edit.moves(), ())
        self.assert_error(BadRef, edit.stand, "ref", "HEAD")
        self.assert_error(BadName, edit.stand, "id", "main")

    def test_other_words(self):
        edit = self.edit()
        for word in [*odd_things(), "Ref", "ID", "tag", "", "ref ", b"ref", ("ref",)]:
            self.assert_error(BadName, edit.stand, word, "main")
            self.assert_error(BadName, edit.stand, word, ONE)
            self.assert_error(BadName, edit.stand, word, "NO")
        edit.finish()
        self.assertEqual(self.refs.head(), ("ref", "main"))

    def test_a_later_call_replaces_an_earlier_one(self):
        edit = self.edit()
        edit.point("main", TWO, old=MOST)
        edit.point("main", MOST, old=ONE)
        edit.delete("a", old=None)
        edit.point("a", ZERO)
        edit.point("new", ZERO)
        edit.delete("new")
        edit.stand("id", TWO)
        edit.stand("ref", "a")
        self.assertEqual(edit.moves(), (("a", TWO, ZERO), ("main", ONE, MOST)))
        edit.finish()
        self.assertEqual(self.refs.state()[:2], ((("a", ZERO), ("main", MOST)), ("ref", "a")))

    def test_a_call_that_raises_leaves_the_earlier_one(self):
        other = self.edit("bob")
        other.point("b/c", ONE)
        edit = self.edit()
        edit.point("main", TWO, old=ONE)
        edit.stand("id", MOST)
        self.assert_error(BadName, edit.point, "main", "x")
        self.assert_error(BadName, lambda: edit.point("main", MOST, old="x"))
        self.assert_error(BadName, lambda: edit.delete("main", old=1))
        self.assert_error(BadRef, edit.stand, "ref", "X")
        self.assert_error(BadName, edit.stand, "id", "x")
        self.assert_error(Locked, edit.point, "b", ONE, ref="b/c")
        edit.finish()
        self.assertEqual(self.refs.state()[:2], ((("a", TWO), ("main", TWO)), ("id", MOST)))


class Old(Editing):
    def test_nothing_asked(self):
        edit = self.edit()
        edit.point("main", TWO, old="")
        edit.point("new", TWO, old="")
        edit.delete("a", old="")
        edit.delete("none", old="")
        edit.finish()
        self.assertEqual(self.refs.names(), ("main", "new"))

    def test_must_not_exist(self):
        edit = self.edit()
        edit.point("new", TWO, old=None)
        edit.delete("none", old=None)
        edit.finish()
        self.assertEqual(self.refs["new"], TWO)
        for call in (lambda edit: edit.point("new", MOST, old=None), lambda edit: edit.delete("new", old=None),
                     lambda edit: edit.point("new", TWO, old=None)):
            edit = self.edit()
            call(edit)
            self.assert_error(Stale, edit.finish, ref="new")
            edit.drop()

    def test_must_have_this_id(self):
        edit = self.edit()
        edit.point("main", TWO, old=ONE)
        edit.delete("a", old=TWO)
        edit.finish()
        self.assertEqual(self.refs.state()[0], (("main", TWO),))
        for ref in ("main", "none"):
            for call in (lambda edit: edit.point(ref, MOST, old=MOST), lambda edit: edit.delete(ref, old=MOST)):
                edit = self.edit()
                call(edit)
                self.assert_error(Stale, edit.finish, ref=ref)
                edit.drop()

    def test_it_is_asked_at_the_end(self):
        late = self.edit()
        early = self.edit()
        early.point("new", ONE)
        early.finish()
        late.point("new", TWO, old=ONE)
        late.finish()
        self.assertEqual(self.refs["new"], TWO)
        edit = self.edit()
        edit.point("x", ONE)
        edit.delete("new", old=TWO)
        edit.finish()
        self.assertEqual(self.refs.names(), ("a", "main", "x"))

    def test_the_first_call_that_counts(self):
        edit = self.edit()
        edit.point("z", ONE, old=ONE)
        edit.point("main", ONE, old=MOST)
        edit.point("b", ONE, old=MOST)
        for ask in (edit.finish, edit.moves, edit.behind):
            self.assert_error(Stale, ask, ref="z")
        edit.point("z", ONE, old=TWO)
        for ask in (edit.finish, edit.moves, edit.behind):
            self.assert_error(Stale, ask, ref="main")
        edit.point("main", TWO, old=ONE)
        self.assert_error(Stale, edit.finish, ref="b")
        edit.delete("b", old=None)
        self.assert_error(Stale, edit.finish, ref="z")
        edit.delete("z")
        edit.finish()
        self.assertEqual(self.refs.state()[0], (("a", TWO), ("main", TWO)))

    def test_stale_changes_nothing_and_keeps_the_locks(self):
        before = self.refs.state()
        edit = self.edit()
        edit.point("main", TWO)
        edit.stand("id", TWO)
        edit.delete("a", old=ONE)
        self.assert_error(Stale, edit.finish, ref="a")
        self.assert_still(before)
        other = self.edit("bob")
        self.assert_error(Locked, other.delete, "main", ref="main")
        self.assert_error(Locked, other.delete, "a/b", ref="a")
        self.assert_error(Locked, other.stand, "ref", "a", ref="HEAD")
        edit.delete("a", old=TWO)
        edit.finish()
        self.assertEqual(self.refs.state()[:2], ((("main", TWO),), ("id", TWO)))


class Prefixes(Editing):
    def wrong(self, *calls):
        before = self.refs.state()
        edit = self.edit()
        for ref in calls:
            edit.point(ref, ONE)
        for ask in (edit.finish, edit.moves, edit.behind):
            self.assert_error(BadRef, ask)
        self.assert_still(before)
        self.assert_error(Locked, self.edit().point, calls[0], ONE)
        edit.drop()

    def test_references_above_one_another(self):
        self.wrong("a/b")
        self.wrong("a/b/c")
        self.wrong("new", "new/x")
        self.wrong("new/x/y", "new")
        self.wrong("new/x/y", "new-", "new/x")
        self.wrong("new", "main/x")
        self.change(**{"b/c/d": ONE})
        self.wrong("b")
        self.wrong("b/c")
        self.wrong("b/c/d/e")

    def test_references_beside_one_another(self):
        edit = self.edit()
        for ref in ("ab", "a-/b", "b/a/c", "mai", "b/ab"):
            edit.point(ref, ONE)
        edit.finish()
        self.assertEqual(len(self.refs), 7)

    def test_one_gives_way_to_another(self):
        edit = self.edit()
        edit.point("a/b", ONE)
        self.assert_error(BadRef, edit.finish)
        edit.delete("a")
        edit.finish()
        self.assertEqual(self.refs.names(), ("a/b", "main"))
        edit = self.edit()
        edit.delete("a/b")
        edit.point("a", ONE)
        edit.finish()
        self.assertEqual(self.refs.names(), ("a", "main"))

    def test_stale_goes_first(self):
        edit = self.edit()
        edit.point("a/b", ONE)
        edit.point("main", ONE, old=None)
        self.assert_error(Stale, edit.finish, ref="main")

    def test_a_deletion_is_never_in_the_way(self):
        edit = self.edit()
        edit.delete("a/b")
        edit.delete("main/x/y")
        self.assertEqual(edit.moves(), ())
        edit.finish()
        self.assertEqual(self.refs.names(), ("a", "main"))

    def test_head_may_stand_anywhere(self):
        edit = self.edit()
        edit.stand("ref", "main/below")
        edit.finish()
        self.assertEqual((self.refs.head(), self.refs.at_head()), (("ref", "main/below"), None))


class Locks(Editing):
    def test_one_reference(self):
        one, other = self.edit(), self.edit("bob")
        one.point("x", ONE)
        for call in (lambda: other.point("x", TWO), lambda: other.delete("x"), lambda: other.point("x", ONE)):
            self.assert_error(Locked, call, ref="x")
        one.point("x", TWO)
        one.delete("x")
        self.assert_error(Locked, other.delete, "x", ref="x")
        other.point("y", ONE)
        self.assert_error(Locked, one.delete, "y", ref="y")
        other.finish()
        one.delete("y")
        one.finish()
        self.assertEqual(self.refs.names(), ("a", "main"))

    def test_deletions_lock_too(self):
        one, other = self.edit(), self.edit("bob")
        one.delete("x")
        self.assert_error(Locked, other.point, "x", TWO, ref="x")
        self.assert_error(Locked, other.point, "x/y", TWO, ref="x")

    def test_prefixes(self):
        one, other = self.edit(), self.edit("bob")
        one.point("x/y", ONE)
        for ref in ("x", "x/y/z", "x/y", "x/y/z/w"):
            self.assert_error(Locked, other.point, ref, ONE, ref="x/y")
            self.assert_error(Locked, other.delete, ref, ref="x/y")
        for ref in ("x/z", "x-", "x/yy", "y", "x/y-/z", "xx"):
            other.delete(ref)
        one.finish()
        other.delete("x")

    def test_the_least_one_in_the_way(self):
        one, two, other = self.edit(), self.edit("bob"), self.edit("eve")
        one.point("x/c", ONE)
        one.point("x/b/d", ONE)
        two.delete("x/b/c")
        two.delete("x/d")
        self.assert_error(Locked, other.delete, "x", ref="x/b/c")
        two.drop()
        self.assert_error(Locked, other.delete, "x", ref="x/b/d")
        self.assert_error(Locked, other.delete, "x/c/d", ref="x/c")
        one.drop()
        one, other = self.edit(), self.edit("bob")
        one.point("w/b/c", ONE)
        one.delete("w")
        one.delete("w/b")
        self.assert_error(Locked, other.delete, "w/b", ref="w")
        self.assert_error(Locked, other.delete, "w/b/c/d", ref="w")

    def test_its_own_locks_are_not_in_the_way(self):
        edit = self.edit()
        edit.delete("x")
        edit.point("x/y", ONE)
        edit.point("x/y", TWO)
        edit.stand("ref", "x/y")
        edit.stand("id", TWO)
        edit.finish()
        self.assertEqual(self.refs["x/y"], TWO)

    def test_head(self):
        one, other = self.edit(), self.edit("bob")
        one.stand("ref", "main")
        self.assert_error(Locked, other.stand, "ref", "main", ref="HEAD")
        self.assert_error(Locked, other.stand, "id", ONE, ref="HEAD")
        other.point("main", TWO)
        other.delete("a")
        other.finish()
        one.finish()
        other = self.edit("bob")
        other.stand("id", MOST)
        other.finish()
        self.assertEqual(self.refs.head(), ("id", MOST))

    def test_standing_at_a_reference_does_not_lock_it(self):
        one, other = self.edit(), self.edit("bob")
        one.stand("ref", "x")
        other.point("x", ONE)
        self.assert_error(Locked, one.delete, "x", ref="x")

    def test_they_come_behind_wrong_arguments(self):
        one, other = self.edit(), self.edit("bob")
        one.point("x", ONE)
        one.stand("id", ONE)
        self.assert_error(BadRef, other.point, "X", ONE)
        self.assert_error(BadName, other.point, "x", "no id")
        self.assert_error(BadName, lambda: other.point("x", ONE, old=1))
        self.assert_error(BadName, lambda: other.delete("x/y", old=1))
        self.assert_error(BadName, other.stand, "head", "main")
        self.assert_error(BadRef, other.stand, "ref", "X")
        self.assert_error(BadName, other.stand, "id", "x")

    def test_a_call_that_raises_locks_nothing(self):
        one, other = self.edit(), self.edit("bob")
        one.point("x/y", ONE)
        self.assert_error(Locked, other.point, "x", ONE, ref="x/y")
        self.assert_error(BadName, other.point, "w", "no id")
        self.assert_error(BadName, lambda: other.point("w", ONE, old=1))
        self.assert_error(BadName, other.stand, "id", "x")
        one.drop()
        third = self.edit("eve")
        third.point("x", ONE)
        third.point("w", ONE)
        third.stand("id", ONE)
        third.finish()
        self.assertEqual((self.refs["x"], self.refs["w"]), (ONE, ONE))

    def test_each_way_to_close_lets_go(self):
        def leave(edit):
            with edit:
                pass

        for close in (lambda edit: edit.finish(), lambda edit: edit.drop(), leave):
            edit = self.edit()
            edit.delete("x")
            edit.stand("ref", "main")
            self.assert_error(Locked, self.edit().delete, "x", ref="x")
            close(edit)
            other = self.edit()
            other.delete("x/y")
            other.stand("ref", "main")
            other.drop()

    def test_replaced_calls_keep_their_lock(self):
        one, other = self.edit(), self.edit("bob")
        one.point("x", ONE)
        one.point("y", ONE)
        one.delete("x", old="")
        self.assert_error(Locked, other.delete, "x", ref="x")
        self.assert_error(Locked, other.delete, "y", ref="y")


class Finishing(Editing):
    def test_log_entries(self):
        edit = self.edit("bob", 7, "two\nlines")
        edit.point("main", MOST)
        edit.point("new", TWO)
        edit.delete("a")
        edit.finish()
        self.assertEqual(self.refs.log("main")[1:], [(ONE, MOST, "bob", 7, "two\nlines")])
        self.assertEqual(self.refs.log("new"), [(None, TWO, "bob", 7, "two\nlines")])
        self.assertEqual(self.refs.log("a")[1:], [(TWO, None, "bob", 7, "two\nlines")])
        self.assertEqual(self.refs.log("HEAD")[1:], [(ONE, MOST, "bob", 7, "two\nlines")])

    def test_no_entry_without_a_change(self):
        before = self.refs.state()
        edit = self.edit()
        edit.point("main", ONE, old=ONE)
        edit.point("a", TWO)
        edit.delete("none")
        edit.stand("ref", "main")
        self.assertEqual((edit.moves(), edit.behind()), ((), before))
        edit.finish()
        self.assert_still(before)

    def test_head_gets_none_where_only_others_change(self):
        before = self.refs.log("HEAD")
        self.change(a=MOST, b=ONE)
        self.assertEqual(self.refs.log("HEAD"), before)

    def test_head_stands_elsewhere(self):
        rows = [(("ref", "a"), ONE, TWO), (("ref", "x"), TWO, None), (("ref", "y"), None, None),
                (("id", MOST), None, MOST), (("id", ONE), MOST, ONE), (("ref", "main"), ONE, ONE),
                (("id", ONE), ONE, ONE), (("ref", "a"), ONE, TWO)]
        for number, ((word, name), old, new) in enumerate(rows):
            many = len(self.refs.log("HEAD"))
            main = self.refs.log("main")
            edit = self.edit("bob", number, "x")
            edit.stand(word, name)
            self.assertEqual(edit.moves(), ())
            edit.finish()
            self.assertEqual(self.refs.log("HEAD")[many:], [(old, new, "bob", number, "x")])
            self.assertEqual(self.refs.log("main"), main)
            self.assertEqual((self.refs.head(), self.refs.at_head()), ((word, name), new))
            again = self.edit()
            again.stand(word, name)
            again.finish()
            self.assertEqual(len(self.refs.log("HEAD")), many + 1)

    def test_head_moves_with_its_reference(self):
        edit = self.edit()
        edit.stand("ref", "new")
        edit.point("new", MOST)
        edit.point("main", TWO)
        edit.finish()
        self.assertEqual(self.refs.log("HEAD")[1:], [(ONE, MOST, "ann", 5, "m")])
        edit = self.edit()
        edit.delete("new")
        edit.finish()
        self.assertEqual(self.refs.log("HEAD")[2:], [(MOST, None, "ann", 5, "m")])
        self.assertEqual(self.refs.head(), ("ref", "new"))

    def test_a_head_at_an_id_does_not_move(self):
        edit = self.edit()
        edit.stand("id", ONE)
        edit.finish()
        before = self.refs.log("HEAD")
        self.change(main=MOST)
        self.assertEqual((self.refs.log("HEAD"), self.refs.at_head()), (before, ONE))

    def test_head_elsewhere_with_one_id(self):
        edit = self.edit()
        edit.stand("ref", "a")
        edit.point("a", ONE)
        edit.delete("main")
        edit.finish()
        self.assertEqual(self.refs.log("HEAD")[1:], [(ONE, ONE, "ann", 5, "m")])

    def test_moves(self):
        edit = self.edit()
        self.assertEqual(edit.moves(), ())
        edit.point("z", ONE)
        edit.point("main", TWO)
        edit.delete("a")
        edit.point("b-", MOST)
        edit.point("b/c", MOST)
        edit.point("b0", MOST)
        edit.delete("none")
        edit.stand("id", MOST)
        moves = (("a", TWO, None), ("b-", None, MOST), ("b/c", None, MOST), ("b0", None, MOST), ("main", ONE, TWO),
                 ("z", None, ONE))
        self.assertEqual(edit.moves(), moves)
        self.assertIs(type(edit.moves()), tuple)
        self.assertEqual([type(move) for move in edit.moves()], [tuple] * 6)
        self.assertEqual(edit.moves(), moves)

    def test_behind(self):
        before = self.refs.state()
        edit = self.edit("bob", 9, "x")
        self.assertEqual(edit.behind(), before)
        edit.point("z", ONE)
        edit.delete("a")
        edit.stand("ref", "z")
        behind = edit.behind()
        self.assertEqual(behind[:2], ((("main", ONE), ("z", ONE)), ("ref", "z")))
        self.assertEqual([name for name, _ in behind[2]], ["HEAD", "a", "main", "z"])
        self.assert_still(before)
        edit.finish()
        self.assert_still(behind)
        self.assertEqual(Refs(behind).state(), behind)

    def test_both_see_the_references_as_they_are_then(self):
        edit = self.edit()
        edit.point("x", ONE)
        self.change(y=TWO, main=MOST)
        self.assertEqual(edit.behind()[0], (("a", TWO), ("main", MOST), ("x", ONE), ("y", TWO)))
        edit.finish()
        self.assertEqual(self.refs.names(), ("a", "main", "x", "y"))

    def test_expired_entries_do_not_come_back(self):
        edit = self.edit("bob", 9, "x")
        edit.point("main", TWO)
        self.assertTrue(self.refs.expire(100, age=1) > 0)
        edit.finish()
        self.assertEqual(self.refs.log("main"), [(ONE, TWO, "bob", 9, "x")])


class Closing(Editing):
    def closed(self):
        """Edits that are closed in each way."""
        def finished():
            edit = self.edit()
            edit.finish()
            return edit

        def dropped():
            edit = self.edit()
            edit.delete("x")
            edit.drop()
            return edit

        def left():
            with self.edit() as edit:
                edit.delete("x")
            return edit

        return [finished(), dropped(), left()]

    def test_methods_of_closed_edits(self):
        for edit in self.closed():
            other = self.edit("bob")
            other.delete("main")
            other.stand("ref", "main")
            for call in (lambda: edit.point("x", ONE), lambda: edit.point("X", 1, old=1), lambda: edit.delete("x"),
                         lambda: edit.delete("X"), lambda: edit.delete("main"), lambda: edit.stand("ref", "main"),
                         lambda: edit.stand(1, 1), edit.finish, edit.drop, edit.moves, edit.behind):
                self.assert_error(BadCommand, call)
            other.drop()

    def test_a_closed_edit_is_not_entered(self):
        for edit in self.closed():
            self.assert_error(BadCommand, edit.__enter__)

    def test_a_finished_edit_does_not_finish_again(self):
        edit = self.edit()
        edit.point("x", ONE)
        edit.finish()
        self.change(x=TWO)
        self.assert_error(BadCommand, edit.finish)
        self.assertEqual(self.refs["x"], TWO)

    def test_drop_changes_nothing(self):
        before = self.refs.state()
        edit = self.edit()
        edit.point("main", TWO)
        edit.stand("id", TWO)
        edit.drop()
        self.assert_still(before)

    def test_with(self):
        before = self.refs.state()
        with self.edit() as edit:
            edit.point("main", TWO)
        self.assert_still(before)
        self.assert_error(BadCommand, edit.finish)
        with self.edit() as edit:
            edit.point("main", TWO)
            edit.finish()
        self.assertEqual(self.refs["main"], TWO)
        with self.edit() as edit:
            edit.drop()
        self.assertEqual(self.refs["main"], TWO)

    def test_with_gives_the_edit_itself(self):
        edit = self.edit()
        with edit as same:
            self.assertIs(same, edit)

    def test_an_exception_goes_on(self):
        before = self.refs.state()
        for kind in (ZeroDivisionError, KeyError, BadName, Stale):
            made = kind("x")
            with self.assertRaises(kind) as caught:
                with self.edit() as edit:
                    edit.point("main", TWO)
                    raise made
            self.assertIs(caught.exception, made)
            self.assert_still(before)
            self.assert_error(BadCommand, edit.moves)
        other = self.edit("bob")
        other.point("main", MOST)
        other.finish()
        self.assertEqual(self.refs["main"], MOST)

    def test_an_error_of_finish_leaves_the_block(self):
        before = self.refs.state()
        with self.assertRaises(Stale):
            with self.edit() as edit:
                edit.point("main", TWO, old=None)
                edit.finish()
        self.assert_still(before)
        self.edit().point("main", TWO)


if __name__ == "__main__":
    unittest.main()
