"""[9.1] Logs of paths, [9.2] `touched`."""

import unittest

from forkhaul.errors import BadName, BadObject, BadPath, NoObject
from forkhaul.history import History
from forkhaul.logs import log_of, touched
from forkhaul.objects import Blob, Commit, Tree
from tests.helpers import MOST, ONE, TWO, Case, Plain, World, chance, odd_things
from tests.test_merging import X, Y, Z


class PlainLog(Plain):
    """Logs by the words of the document, in the plainest way."""

    def restricted(self, name, paths):
        files = self.store.files_of(self.store[name].tree)
        return {path: files[path] for path in files
                if any([path == wanted or path.startswith(wanted + "/") for wanted in paths])}

    def walked(self, heads, paths, full):
        found, todo = set(), list(heads)
        while todo:
            name = todo.pop()
            found.add(name)
            same = [parent for parent in self.parents(name)
                    if self.restricted(parent, paths) == self.restricted(name, paths)]
            todo += same[:1] if same and not full else self.parents(name)
        return found

    def is_shown(self, name, paths):
        mine = self.restricted(name, paths)
        others = [self.restricted(parent, paths) for parent in self.parents(name)]
        return mine not in others if others else mine != {}

    def log(self, heads, paths, full):
        if not paths:
            return self.order(self.reached(*heads))
        return [name for name in self.order(self.walked(heads, paths, full)) if self.is_shown(name, paths)]

    def touched(self, head):
        out = {}
        for path, value in self.store.files_of(self.store[head].tree).items():
            name = head
            while True:
                same = [parent for parent in self.parents(name)
                        if self.store.files_of(self.store[parent].tree).get(path) == value]
                if not same:
                    break
                name = same[0]
            out[path] = name
        return out


class Logs(Case):
    def setUp(self):
        self.world = World()
        self.store = self.world.store
        self.history = History(self.store)

    def commit(self, files, *parents, time=0, message=""):
        return self.store.put(Commit(self.store.put_files(files), parents, author="ann", time=time, message=message))

    def bare(self, tree, *parents, time=0):
        return self.store.put(Commit(tree, parents, author="ann", time=time))

    def log(self, heads, *paths, full=False):
        return list(log_of(self.history, heads, paths=paths, full=full))


class Lines(Logs):
    def setUp(self):
        super().setUp()
        self.none = self.commit({}, time=1)
        self.one = self.commit({"a": X}, self.none, time=2)
        self.two = self.commit({"a": X, "d/b": X}, self.one, time=3)
        self.three = self.commit({"a": Y, "d/b": X}, self.two, time=4)
        self.four = self.commit({"a": Y, "d/b": X, "d/c": X}, self.three, time=5)
        self.five = self.commit({"d/b": X, "d/c": X, "d-": X}, self.four, time=6)
        self.all = [self.five, self.four, self.three, self.two, self.one, self.none]

    def test_no_paths(self):
        for full in (False, True):
            self.assertEqual(self.log((self.five,), full=full), self.all)
            self.assertEqual(self.log((self.three, self.one), full=full), self.all[2:])
            self.assertEqual(self.log((), full=full), [])
        self.assertEqual(list(log_of(self.history, (self.one,))), self.all[4:])
        self.assertEqual(list(log_of(history=self.history, heads=(self.one,), paths=(), full=False)), self.all[4:])

    def test_one_path(self):
        for full in (False, True):
            self.assertEqual(self.log((self.five,), "a", full=full), [self.five, self.three, self.one])
            self.assertEqual(self.log((self.four,), "a", full=full), [self.three, self.one])
            self.assertEqual(self.log((self.five,), "d/b", full=full), [self.two])
            self.assertEqual(self.log((self.five,), "d", full=full), [self.four, self.two])
            self.assertEqual(self.log((self.five,), "d-", full=full), [self.five])
            self.assertEqual(self.log((), "a", full=full), [])

    def test_nothing_at_a_path(self):
        for path in ("x", "a/b", "d/b/x", "d.", "aa", "d/x"):
            self.assertEqual(self.log((self.five,), path), [])
            self.assertEqual(self.log((self.five,), path, full=True), [])

    def test_several_paths(self):
        self.assertEqual(self.log((self.five,), "a", "d/b"), [self.five, self.three, self.two, self.one])
        self.assertEqual(self.log((self.five,), "d/b", "a"), [self.five, self.three, self.two, self.one])
        self.assertEqual(self.log((self.five,), "d/b", "a", "d/b", "a"), [self.five, self.three, self.two, self.one])
        self.assertEqual(self.log((self.five,), "d", "d/b"), [self.four, self.two])
        self.assertEqual(self.log((self.five,), "x", "d/c"), [self.four])

    def test_a_file_becomes_a_directory(self):
        top = self.commit({"a/x": Y}, self.five, time=7)
        self.assertEqual(self.log((top,), "a"), [top, self.five, self.three, self.one])
        self.assertEqual(self.log((top,), "a/x"), [top])
        self.assertEqual(self.log((top,), "d-"), [top, self.five])

    def test_a_root_with_files(self):
        root = self.commit({"a": X, "b": Y}, time=9)
        self.assertEqual(self.log((root,), "a"), [root])
        self.assertEqual(self.log((root,), "c"), [])
        self.assertEqual(self.log((root, self.one), "b"), [root])

    def test_kinds_count(self):
        top = self.commit({"a": ("exec", Y[1])}, self.four, time=9)
        self.assertEqual(self.log((top,), "a"), [top, self.three, self.one])

    def test_a_cut(self):
        cut = History(self.store, cut=(self.three,))
        self.assertEqual(list(log_of(cut, (self.five,), paths=("a",))), [self.five, self.three])
        self.assertEqual(list(log_of(cut, (self.five,), paths=("d/c",), full=True)), [self.four])
        self.assertEqual(list(log_of(cut, (self.five,))), self.all[:3])
        self.assertEqual(touched(cut, self.four), {"a": self.three, "d/b": self.three, "d/c": self.four})
        none = History(self.store, cut=(self.none,))
        self.assertEqual(list(log_of(none, (self.one,), paths=("a",))), [self.one])

    def test_touched(self):
        self.assertEqual(touched(self.history, self.four), {"a": self.three, "d/b": self.two, "d/c": self.four})
        self.assertEqual(list(touched(history=self.history, head=self.five).items()),
                         [("d-", self.five), ("d/b", self.two), ("d/c", self.four)])
        self.assertEqual(touched(self.history, self.none), {})
        touched(self.history, self.one)["x"] = 1
        self.assertEqual(touched(self.history, self.one), {"a": self.one})


class Forks(Logs):
    def test_the_example(self):
        root = self.commit({"a": X, "b": X}, time=1)
        first = self.commit({"a": Y, "b": X}, root, time=2)
        second = self.commit({"a": Y, "b": Y}, root, time=3)
        merge = self.commit({"a": Y, "b": Y}, first, second, time=4)
        self.assertEqual(self.log((merge,), "a"), [first, root])
        self.assertEqual(self.log((merge,), "b"), [second, root])
        self.assertEqual(self.log((merge,), "a", "b"), [second, root])
        self.assertEqual(self.log((merge,), "a", full=True), [second, first, root])
        self.assertEqual(self.log((merge,), "b", full=True), [second, root])
        self.assertEqual(self.log((merge,), "b", "a", full=True), [second, first, root])
        self.assertEqual(touched(self.history, merge), {"a": first, "b": second})

    def test_a_merge_of_both_sides_is_shown(self):
        root = self.commit({"a": X, "b": X}, time=1)
        first, second = self.commit({"a": Y, "b": X}, root, time=2), self.commit({"a": X, "b": Y}, root, time=3)
        merge = self.commit({"a": Y, "b": Y}, first, second, time=4)
        for full in (False, True):
            self.assertEqual(self.log((merge,), "a", "b", full=full), [merge, second, first, root])
        self.assertEqual(self.log((merge,), "a"), [first, root])
        self.assertEqual(self.log((merge,), "b"), [second, root])

    def test_a_side_that_comes_to_nothing(self):
        root = self.commit({"a": X}, time=1)
        there = self.commit({"a": Y}, root, time=2)
        back = self.commit({"a": X}, there, time=3)
        plain = self.commit({"a": X, "b": X}, root, time=4)
        merge = self.commit({"a": X, "b": X}, plain, back, time=5)
        self.assertEqual(self.log((merge,), "a"), [root])
        self.assertEqual(self.log((merge,), "a", full=True), [back, there, root])
        turned = self.commit({"a": X, "b": X}, back, plain, time=5)
        self.assertEqual(self.log((turned,), "a"), [back, there, root])
        self.assertEqual(self.log((turned, merge), "a"), [back, there, root])

    def test_the_order_is_that_of_all_commits_of_the_walk(self):
        late = self.commit({"a": X}, time=50)
        middle = self.commit({"a": X, "b": X}, late, time=1)
        other = self.commit({"a": Y}, time=10)
        top = self.commit({"a": Z}, middle, other, time=60)
        self.assertEqual(self.log((top,), "a"), [top, other, late])
        self.assertEqual(self.log((top,), "a", full=True), [top, other, late])

    def test_the_walk_does_not_count_what_it_leaves_out(self):
        base = self.commit({"a": X}, time=30)
        side = self.commit({"a": X, "s": X}, base, time=5)
        first = self.commit({"a": X, "f": X}, base, time=4)
        merge = self.commit({"a": X, "m": X}, first, side, time=7)
        lone = self.commit({"a": Y}, time=6)
        self.assertEqual(self.log((merge, lone), "a"), [lone, base])
        later = self.commit({"a": Y}, time=3)
        self.assertEqual(self.log((merge, later), "a"), [base, later])

    def test_six_parents(self):
        root = self.commit({"a": X}, time=1)
        sides = [self.commit({"a": (X, Y)[at > 2], "b": X}, root, time=2, message=f"{at}") for at in range(6)]
        merge = self.commit({"a": Y}, *sides, time=3)
        self.assertEqual(self.log((merge,), "a"), [sides[3], root])
        self.assertEqual(self.log((merge,), "a", full=True), [*sorted(sides[3:]), root])
        self.assertEqual(touched(self.history, merge), {"a": sides[3]})

    def test_mixed_histories(self):
        numbers = chance(17)
        values = (None, X, Y)
        for round_ in range(25):
            names = []
            for at in range(11):
                files = {path: value for path in ("a", "d/b", "d/c", "d-") if (value := values[next(numbers) % 3])}
                parents = sorted({names[next(numbers) % at] for _ in range(next(numbers) % 4) if at},
                                 key=lambda name: next(numbers))
                names.append(self.commit(files, *parents, time=next(numbers) % 4, message=f"{round_} {at}"))
            cut = (names[5],) if round_ % 3 == 0 else ()
            self.check(PlainLog(self.store, cut), History(self.store, cut=cut), names)

    def check(self, plain, history, names):
        for heads in ((names[-1],), (names[-2], names[3], names[-2]), tuple(names)):
            for paths in ((), ("a",), ("d",), ("d", "a"), ("d-", "d/b"), ("x",)):
                for full in (False, True):
                    self.assertEqual(list(log_of(history, heads, paths=paths, full=full)),
                                     plain.log(heads, paths, full), (heads, paths, full))
        for head in names:
            found = touched(history, head)
            self.assertEqual(found, plain.touched(head))
            self.assertEqual(list(found), sorted(found))
            for path in found:
                self.assertEqual(next(log_of(history, (head,), paths=(path,))), found[path])


class GreatLogs(Logs):
    def test_a_line_of_200_commits(self):
        names, files, parents = [], {}, ()
        for at in range(200):
            files = {**files, f"d{at % 6}/f{at % 30}": (X, Y, Z)[at % 7 % 3]}
            names.append(self.commit(files, *parents, time=at))
            parents = (names[-1],)
        for path, step in (("d5/f5", 30), ("d0/f6", 30)):
            wanted, value = [], None
            for at in range(int(path[4:]), 200, step):
                if (X, Y, Z)[at % 7 % 3] != value:
                    value = (X, Y, Z)[at % 7 % 3]
                    wanted.append(names[at])
            for full in (False, True):
                self.assertEqual(self.log((names[-1],), path, full=full), wanted[::-1])
            self.assertEqual(touched(self.history, names[-1])[path], wanted[-1])
        self.assertEqual(len(touched(self.history, names[-1])), 30)
        self.assertEqual(self.log((names[-1],)), names[::-1])

    def test_ladders(self):
        for turned in (False, True):
            world = World()
            self.store, self.history = world.store, History(world.store)
            left, right = self.commit({"a": X}, message="l"), self.commit({"b": X}, message="r")
            rungs = [(left, right)]
            for at in range(1, 95):
                pair = (right, left) if turned else (left, right)
                left, right = (self.commit({"a": X}, *pair, time=at, message="l"),
                               self.commit({"b": X}, *pair, time=at, message="r"))
                rungs.append((left, right))
            self.assertEqual(self.log((left, right), "a"), [rungs[0][0]])
            self.assertEqual(self.log((left,), "b"), [])
            self.assertEqual(self.log((left, right), "b"), [rungs[0][1]])
            self.assertEqual(self.log((left,), "b", full=True), [rungs[0][1]])
            self.assertEqual(self.log((left,), "a", full=True), [rungs[0][0]])
            self.assertEqual(self.log((left, right), "c"), [])
            self.assertEqual(touched(self.history, right), {"b": rungs[0][1]})
            self.assertEqual(self.log((left, right)), [name for rung in rungs[::-1] for name in sorted(rung)])


class Errors(Logs):
    def setUp(self):
        super().setUp()
        self.good = self.commit({"a": X})
        self.blob = self.store.put(Blob("a"))
        self.lost = self.bare(self.world.tree, TWO, ONE)

    def assert_log_error(self, kind, heads, paths=(), full=False, **fields):
        self.assert_generator_error(kind, lambda: log_of(self.history, heads, paths=paths, full=full), **fields)

    def test_heads(self):
        for thing in odd_things():
            if not isinstance(thing, tuple):
                self.assert_log_error(BadName, thing, None, None)
            self.assert_log_error(NoObject, (self.good, thing), None, name=thing)
            self.assert_error(NoObject, touched, self.history, thing, name=thing)
        self.assert_log_error(BadName, self.good)
        self.assert_log_error(NoObject, (ONE, self.blob), None, name=ONE)
        self.assert_log_error(BadObject, (self.blob, ONE), None, at=0)
        self.assert_log_error(NoObject, (self.good, self.lost), None, name=ONE)
        self.assert_log_error(BadObject, (self.bare(self.world.tree, self.blob),), None, None, at=0)
        self.assert_error(BadObject, touched, self.history, self.blob, at=0)
        self.assert_error(NoObject, touched, self.history, self.lost, name=ONE)
        self.assert_error(BadObject, touched, self.history, self.bare(self.world.tree, self.blob), at=0)

    def test_paths(self):
        wrongs = [thing for thing in odd_things() if thing != ()] + [
            "a", ["a"], {"a": 1}, ("a", ""), ("a", None), ("a", "/a"), ("a/",), (["a"],), ("a/b/c/d/e/f/g",), ("A",), (b"a",)]
        for wrong in wrongs:
            self.assert_log_error(BadPath, (self.good,), wrong)
            self.assert_log_error(BadPath, (), wrong, None)

    def test_full(self):
        for wrong in odd_things():
            if not isinstance(wrong, bool):
                self.assert_log_error(BadName, (self.good,), (), wrong)
                self.assert_log_error(BadName, (self.bare(ONE),), ("a",), wrong)

    def test_files(self):
        lost, odd = self.bare(TWO, self.good, time=3), self.bare(self.blob, self.good, time=2)
        top = self.bare(MOST, lost, odd, time=1)
        self.assert_log_error(NoObject, (top,), ("a",), name=MOST)
        self.assert_log_error(NoObject, (lost, odd), ("a",), name=TWO)
        self.assert_log_error(NoObject, (odd, lost), ("a",), True, name=TWO)
        self.assert_log_error(BadObject, (odd,), ("x",), at=0)
        self.assertEqual(set(self.log((top,))), {top, lost, odd, self.good})
        for name, kind, fields in ((top, NoObject, {"name": MOST}), (lost, NoObject, {"name": TWO}),
                                   (odd, BadObject, {"at": 0})):
            self.assert_error(kind, touched, self.history, name, **fields)

    def test_files_that_the_walk_does_not_come_to(self):
        deep = self.bare(self.store.put(Tree({"a": ("dir", ONE)})), time=9)
        merge = self.commit({"a": X}, self.good, deep, time=10)
        self.assert_log_error(NoObject, (merge,), ("a",), name=ONE)
        self.assert_error(NoObject, touched, self.history, merge, name=ONE)
        self.assertEqual(list(log_of(History(self.store, cut=(merge,)), (merge,), paths=("a",))), [merge])

    def test_errors_come_before_the_first_commit(self):
        self.assert_log_error(NoObject, (self.commit({"a": Y}, self.bare(TWO), time=9),), ("a",), name=TWO)

    def test_the_arguments_stay_as_they_are(self):
        paths = ("b", "a", "b")
        self.assertEqual(self.log((self.good,), *paths), [self.good])
        self.assertEqual(self.log((self.good, self.good), "a"), [self.good])


if __name__ == "__main__":
    unittest.main()
