"""[7.1] Differences, [7.2] merged files, [7.3] merges of commits."""

import itertools
import unittest

from forkhaul.errors import BadObject, BadPath, NoObject
from forkhaul.history import History
from forkhaul.merging import differences, merge_of, merged
from forkhaul.objects import Blob, Commit
from tests.helpers import MOST, ONE, TWO, ZERO, Case, World, chance, odd_things

X = ("file", ZERO)
Y = ("file", ONE)
Z = ("exec", ZERO)


def no_files():
    """Objects that are no files; `{}` is."""
    return [thing for thing in odd_things() if thing != {}] + [
        {"": X}, {"a//b": X}, {"A": X}, {"a": X, 1: X}, {"a": X, None: X}, {"a": X, b"b": X}, {("a",): X}, {"a/": X},
        {"a/b/c/d/e/f/g": X}, {"a": None}, {"a": ZERO}, {"a": ["file", ZERO]}, {"a": ("dir", ZERO)}, {"a": ("file",)},
        {"a": ("file", ZERO, 1)}, {"a": ("file", "x")}, {"a": ("file", None)}, {"a": (None, ZERO)}, {"a": ([], ZERO)},
        {"a": X, "b": 1}, [("a", X)], ("a", X), {"a": {}}, {"a": ("file", [ZERO])}]


class Differences(Case):
    def test_ordinary_ones(self):
        self.assertEqual(differences({}, {}), [])
        self.assertEqual(differences({"a": X}, {"a": X}), [])
        self.assertEqual(differences({"a": X}, {"a": Y}), [("a", X, Y)])
        self.assertEqual(differences({"a": X}, {"a": Z}), [("a", X, Z)])
        self.assertEqual(differences(old={"a": X}, new={}), [("a", X, None)])
        self.assertEqual(differences({}, {"a": X}), [("a", None, X)])
        self.assertIs(type(differences({}, {})), list)

    def test_they_are_ascending(self):
        old = {"b/c": X, "d": X, "a": X, "b": Y, "same": X}
        new = {"c": Y, "b.c": X, "same": X, "b-": Z, "a": Y, "b0": X}
        self.assertEqual(differences(old, new), [
            ("a", X, Y), ("b", Y, None), ("b-", None, Z), ("b.c", None, X), ("b/c", X, None), ("b0", None, X),
            ("c", None, Y), ("d", X, None)])

    def test_paths_that_clash(self):
        self.assertEqual(differences({"a": X, "a/b": X}, {"a/b": Y, "a/b/c": X}),
                         [("a", X, None), ("a/b", X, Y), ("a/b/c", None, X)])

    def test_what_is_no_files(self):
        for wrong in no_files():
            self.assert_error(BadPath, differences, wrong, {})
            self.assert_error(BadPath, differences, {"a": X}, wrong)

    def test_nothing_passed_changes(self):
        old, new = {"b": X, "a": Y}, {"c": X, "a": X}
        differences(old, new).append(1)
        self.assertEqual((list(old.items()), list(new.items())), ([("b", X), ("a", Y)], [("c", X), ("a", X)]))
        self.assertEqual(differences(old, new), [("a", Y, X), ("b", X, None), ("c", None, X)])


class OnePath(Case):
    """The rule for one path, by its values in the bases, in ours and in theirs."""

    def check(self, olds, mine, other, wanted, conflicts=()):
        files = [{} if value is None else {"p": value} for value in (*olds, mine, other)]
        result = merged(tuple(files[:-2]), files[-2], files[-1])
        self.assertEqual(result, ({} if wanted is None else {"p": wanted}, conflicts), (olds, mine, other))

    def test_equal_sides(self):
        for olds in ((), (X,), (None,), (X, Y), (X, None), (Z, Z)):
            for value in (X, Y, None):
                self.check(olds, value, value, value)

    def test_one_base(self):
        self.check((X,), X, Y, Y)
        self.check((X,), Y, X, Y)
        self.check((X,), X, None, None)
        self.check((X,), None, X, None)
        self.check((None,), None, Y, Y)
        self.check((None,), Y, None, Y)
        self.check((X,), Z, X, Z)
        self.check((X,), Y, Z, None, ("p",))
        self.check((X,), None, Y, None, ("p",))
        self.check((X,), Y, None, None, ("p",))
        self.check((None,), X, Y, None, ("p",))
        self.check((X,), X, Z, Z)

    def test_no_base(self):
        self.check((), X, None, X)
        self.check((), None, X, X)
        self.check((), X, Y, None, ("p",))
        self.check((), X, Z, None, ("p",))

    def test_several_bases(self):
        self.check((X, X), X, Y, Y)
        self.check((X, X, X), Y, X, Y)
        self.check((X, X), X, None, None)
        self.check((None, None), Y, None, Y)
        self.check((X, Y), X, Y, None, ("p",))
        self.check((X, Y), X, Z, None, ("p",))
        self.check((X, None), X, None, None, ("p",))
        self.check((None, X), None, X, None, ("p",))
        self.check((X, X, Y), X, Z, None, ("p",))
        self.check((Y, X, X), X, Z, None, ("p",))
        self.check((X, X), Y, Z, None, ("p",))

    def test_all_values(self):
        values = (None, X, Y, Z)
        for many in range(4):
            for *olds, mine, other in itertools.product(values, repeat=many + 2):
                if mine == other:
                    self.check(olds, mine, other, mine)
                elif len(set(olds or [None])) == 1 and (olds or [None])[0] in (mine, other):
                    self.check(olds, mine, other, other if mine == (olds or [None])[0] else mine)
                else:
                    self.check(olds, mine, other, None, ("p",))


class SeveralPaths(Case):
    def test_an_ordinary_merge(self):
        base = {"both": X, "ours": X, "theirs": X, "gone": X, "torn": X, "same": X}
        ours = {"both": Y, "ours": Y, "theirs": X, "torn": Y, "same": X, "new/a": X}
        theirs = {"both": Y, "ours": X, "theirs": Z, "gone": X, "torn": Z, "same": X, "new/b": Y}
        wanted = {"both": Y, "new/a": X, "new/b": Y, "ours": Y, "same": X, "theirs": Z}
        files, conflicts = merged((base,), ours, theirs)
        self.assertEqual((files, conflicts), (wanted, ("torn",)))
        self.assertEqual(list(files), sorted(wanted))
        self.assertEqual(merged(bases=(base,), ours=theirs, theirs=ours), (wanted, ("torn",)))
        self.assertEqual(merged((), {}, {}), ({}, ()))
        self.assertEqual(merged((base,), base, {}), ({}, ()))

    def test_conflicts_are_ascending(self):
        ours = {path: X for path in ("b/a", "b", "b-", "c", "a")}
        theirs = {path: Y for path in ("c", "b-", "a", "b", "b/a", "b.")}
        self.assertEqual(merged((), ours, theirs), ({"b.": Y}, ("a", "b", "b-", "b/a", "c")))

    def test_paths_above_one_another(self):
        self.assertEqual(merged(({},), {"a": X}, {"a/b": Y}), ({}, ("a", "a/b")))
        self.assertEqual(merged(({},), {"a/b": Y}, {"a": X}), ({}, ("a", "a/b")))
        self.assertEqual(merged((), {"a": X, "c": X}, {"a/b/c/d": Y}), ({"c": X}, ("a", "a/b/c/d")))
        self.assertEqual(merged(({"a": X},), {"a": X}, {"a/b": Y}), ({"a/b": Y}, ()))
        self.assertEqual(merged(({"a": X},), {"a/b": Y}, {"a": X}), ({"a/b": Y}, ()))
        self.assertEqual(merged(({"a": X},), {"a": X, "c": X}, {"a": X, "a/b": Y}), ({"c": X}, ("a", "a/b")))

    def test_rows_of_paths_above_one_another(self):
        self.assertEqual(merged((), {"a": X, "a/b/c": X}, {"a/b": Y, "ab": Y}), ({"ab": Y}, ("a", "a/b", "a/b/c")))
        self.assertEqual(merged((), {"a": X}, {"a/b": Y, "a/c/d": Z, "b": X}), ({"b": X}, ("a", "a/b", "a/c/d")))
        self.assertEqual(merged((), {"a/b": X, "a/b/c": X}, {"a/d": X}), ({"a/d": X}, ("a/b", "a/b/c")))

    def test_a_path_that_is_a_conflict_has_no_result(self):
        self.assertEqual(merged((), {"a": X, "a/b": X}, {"a": Y}), ({"a/b": X}, ("a",)))
        self.assertEqual(merged(({"a": X},), {"a": Y, "a/b": X}, {}), ({"a/b": X}, ("a",)))
        self.assertEqual(merged((), {"a": X, "a/b": X, "a/b/c": X}, {"a": Y}), ({}, ("a", "a/b", "a/b/c")))

    def test_signs_that_sort_before_the_slash(self):
        ours = {"a": X, "a.b": X, "a-b": X, "a0": X, "b": X}
        self.assertEqual(merged((), ours, {"a/b": Y}), (
            {"a-b": X, "a.b": X, "a0": X, "b": X}, ("a", "a/b")))
        self.assertEqual(merged((), {"a-": X, "a.": X}, {"a/b": Y, "ab/c": Y}),
                         ({"a-": X, "a.": X, "a/b": Y, "ab/c": Y}, ()))
        self.assertEqual(merged((), {"a": X, "a-/b": X, "a./b": X}, {"a-": Y, "a/-": Y}),
                         ({"a./b": X}, ("a", "a-", "a-/b", "a/-")))

    def test_clashes_within_one_argument(self):
        clash = {"a": X, "a/b": Y}
        self.assertEqual(merged((clash,), clash, {}), ({}, ()))
        self.assertEqual(merged((clash,), clash, {"a": X}), ({"a": X}, ()))
        self.assertEqual(merged((clash,), clash, clash), ({}, ("a", "a/b")))
        self.assertEqual(merged((clash,), {"a/b": Y}, clash), ({"a/b": Y}, ()))
        self.assertEqual(merged(({}, clash), {}, clash), ({}, ("a", "a/b")))

    def test_against_the_rule_said_again(self):
        numbers = chance(3)
        paths = ("a", "a/b", "a/b/c", "a-", "a.", "b", "b/a", "b/a-")
        values = (None, None, X, Y)
        for _ in range(400):
            *bases, ours, theirs = [
                {path: value for path in paths if (value := values[next(numbers) % 4])}
                for _ in range(2 + next(numbers) % 4)]
            self.assertEqual(merged(tuple(bases), ours, theirs), self.plainly(paths, bases, ours, theirs))

    def plainly(self, paths, bases, ours, theirs):
        results, torn = {}, set()
        for path in paths:
            mine, other = ours.get(path), theirs.get(path)
            olds = {base.get(path) for base in bases} or {None}
            if mine == other or olds == {mine}:
                results[path] = other
            elif olds == {other}:
                results[path] = mine
            else:
                torn.add(path)
        there = [path for path in results if results[path] is not None]
        torn = torn | {path for path in there for other in there
                       if other.startswith(path + "/") or path.startswith(other + "/")}
        return {path: results[path] for path in sorted(there) if path not in torn}, tuple(sorted(torn))

    def test_what_is_no_files(self):
        for wrong in no_files():
            self.assert_error(BadPath, merged, (wrong,), {}, {})
            self.assert_error(BadPath, merged, ({}, {"a": X}, wrong), {}, {})
            self.assert_error(BadPath, merged, (), wrong, {})
            self.assert_error(BadPath, merged, ({},), {}, wrong)
        for wrong in odd_things():
            if not isinstance(wrong, tuple):
                self.assert_error(BadPath, merged, wrong, {}, {})
        self.assert_error(BadPath, merged, [{}], {}, {})
        self.assert_error(BadPath, merged, {"a": X}, {}, {})

    def test_nothing_passed_changes(self):
        base, ours, theirs = {"b": X, "a": X}, {"c": X, "a": Y}, {"d": Y, "a": X}
        merged((base,), ours, theirs)[0]["x"] = 1
        self.assertEqual([list(files) for files in (base, ours, theirs)], [["b", "a"], ["c", "a"], ["d", "a"]])
        self.assertEqual(merged((base,), ours, theirs), ({"a": Y, "c": X, "d": Y}, ()))

    def test_the_order_of_keys_means_nothing(self):
        files = {"b": X, "a": X, "a/b": Y}
        turned = {path: files[path] for path in reversed(files)}
        for pair in ((files, {}), (turned, {}), ({}, turned)):
            self.assertEqual(merged((), *pair), ({"b": X}, ("a", "a/b")))


class Commits(Case):
    def setUp(self):
        self.world = World()
        self.store = self.world.store
        self.history = History(self.store)

    def commit(self, files, *parents, time=0):
        return self.store.put(Commit(self.store.put_files(files), parents, author="ann", time=time))

    def both_ways(self, one, other):
        result = merge_of(self.history, one, other)
        self.assertEqual(merge_of(history=self.history, one=other, other=one), result)
        return result

    def test_one_base(self):
        base = self.commit({"a": X, "b": X, "d/c": X})
        one = self.commit({"a": Y, "b": Y, "d/c": X}, base)
        other = self.commit({"a": X, "b": Z, "n": X}, base)
        self.assertEqual(self.both_ways(one, other), ({"a": Y, "n": X}, ("b",)))

    def test_no_base(self):
        one, other = self.commit({"a": X, "b": X, "c": X}), self.commit({"a": X, "b": Y, "d": X}, time=1)
        self.assertEqual(self.both_ways(one, other), ({"a": X, "c": X, "d": X}, ("b",)))

    def test_two_bases(self):
        root = self.commit({"a": X, "b": X})
        left, right = self.commit({"a": Y, "b": X}, root), self.commit({"a": X, "b": Y}, root)
        one = self.commit({"a": Y, "b": Y, "c": X}, left, right)
        other = self.commit({"a": Y, "b": Y, "d": X}, right, left)
        self.assertEqual(self.both_ways(one, other), ({"a": Y, "b": Y, "c": X, "d": X}, ()))
        third = self.commit({"a": X, "b": Y}, right, left, time=5)
        self.assertEqual(self.both_ways(one, third), ({"b": Y, "c": X}, ("a",)))

    def test_an_ancestor(self):
        root = self.commit({"a": X, "b": X})
        middle = self.commit({"a": Y}, root)
        top = self.commit({"c": Z, "d/e": X}, middle)
        for old in (root, middle, top):
            self.assertEqual(self.both_ways(old, top), ({"c": Z, "d/e": X}, ()))

    def test_a_cut(self):
        base = self.commit({"a": X})
        one, other = self.commit({}, base), self.commit({"a": X}, base, time=1)
        self.assertEqual(self.both_ways(one, other), ({}, ()))
        self.assertEqual(merge_of(History(self.store, cut=(one,)), one, other), ({"a": X}, ()))

    def test_errors_of_bases(self):
        good = self.commit({})
        lost = self.world.commit("lost", TWO, ONE)
        for thing in [*odd_things(), ONE]:
            self.assert_error(NoObject, merge_of, self.history, thing, good, name=thing)
            self.assert_error(NoObject, merge_of, self.history, good, thing, name=thing)
        self.assert_error(BadObject, merge_of, self.history, self.world.tree, ONE, at=0)
        self.assert_error(BadObject, merge_of, self.history, good, self.world.tree, at=0)
        self.assert_error(NoObject, merge_of, self.history, good, lost, name=ONE)
        self.assert_error(NoObject, merge_of, self.history, lost, good, name=ONE)

    def bare(self, tree, *parents):
        return self.store.put(Commit(tree, parents, author="ann", time=1))

    def test_errors_of_files(self):
        blob = self.store.put(Blob("a"))
        good = self.commit({"a": X})
        base = self.bare(MOST, good)
        one, other = self.bare(TWO, base), self.bare(ONE, base)
        fine = self.commit({}, base)
        self.assert_error(NoObject, merge_of, self.history, one, other, name=MOST)
        self.assert_error(NoObject, merge_of, self.history, fine, other, name=MOST)
        one, other, odd = self.bare(TWO, good), self.bare(ONE, good), self.bare(blob, good)
        self.assert_error(NoObject, merge_of, self.history, one, other, name=TWO)
        self.assert_error(NoObject, merge_of, self.history, other, one, name=ONE)
        self.assert_error(NoObject, merge_of, self.history, good, one, name=TWO)
        self.assert_error(BadObject, merge_of, self.history, odd, one, at=0)
        self.assert_error(NoObject, merge_of, self.history, one, odd, name=TWO)
        self.assert_error(BadObject, merge_of, self.history, good, odd, at=0)

    def test_the_files_of_several_bases_in_their_order(self):
        lefts = [self.bare(tree) for tree in (ONE, TWO, MOST)]
        one = self.store.put(Commit(self.world.tree, tuple(lefts), author="ann", time=1))
        other = self.store.put(Commit(self.world.tree, tuple(lefts[::-1]), author="ann", time=1))
        first = self.store[min(lefts)].tree
        self.assert_error(NoObject, merge_of, self.history, one, other, name=first)


if __name__ == "__main__":
    unittest.main()
