"""[8.3] `pick`, [8.4] `Replay`."""

import unittest

from forkhaul.errors import BadChange, BadName, BadObject, BadPath, Conflict, NoObject
from forkhaul.objects import Blob, Commit, Tag, Tree
from forkhaul.replays import Replay, pick
from tests.helpers import MOST, ONE, TWO, Case, World, odd_things
from tests.test_merging import X, Y, Z


class Replays(Case):
    def setUp(self):
        self.world = World()
        self.store = self.world.store

    def commit(self, files, *parents, time=1, message="", author="ann"):
        tree = self.store.put_files(files)
        return self.store.put(Commit(tree, parents, author=author, time=time, message=message))

    def bare(self, tree, *parents, time=1):
        return self.store.put(Commit(tree, parents, author="ann", time=time))

    def files(self, name):
        return self.store.files_of(self.store[name].tree)


class Pick(Replays):
    def setUp(self):
        super().setUp()
        self.root = self.commit({"a": X, "b": X})
        self.old = self.commit({"a": Y, "b": X, "c/d": X}, self.root, time=5, message="old\nmore", author="bob")
        self.onto = self.commit({"a": X, "b": Z, "e": X}, self.root, time=9)

    def test_an_ordinary_one(self):
        name = pick(self.store, self.old, self.onto)
        self.assertEqual(self.files(name), {"a": Y, "b": Z, "c/d": X, "e": X})
        self.assertEqual(self.store[name], Commit(self.store[name].tree, (self.onto,), author="bob", time=5,
                                                  message="old\nmore"))
        self.assertEqual(pick(store=self.store, name=self.old, onto=self.onto, revert=False, time=None), name)

    def test_another_time(self):
        for time in (0, 7, 10 ** 12):
            name = pick(self.store, self.old, self.onto, time=time)
            self.assertEqual((self.store[name].time, self.store[name].author), (time, "bob"))

    def test_reverts(self):
        top = self.commit({"a": Y, "b": Z, "c/d": X}, self.old)
        name = pick(self.store, self.old, top, revert=True)
        self.assertEqual(self.files(name), {"a": X, "b": Z})
        self.assertEqual(self.store[name].parents, (top,))
        self.assertEqual((self.store[name].author, self.store[name].time), ("bob", 5))
        back = pick(self.store, self.old, self.old, revert=True, time=8)
        self.assertEqual((self.store[back].tree, self.store[back].time), (self.store[self.root].tree, 8))

    def test_a_commit_without_parents(self):
        onto = self.commit({"c": Z, "b": X})
        self.assertEqual(self.files(pick(self.store, self.root, onto)), {"a": X, "b": X, "c": Z})
        self.assertEqual(self.files(pick(self.store, self.root, onto, revert=True)), {"c": Z})
        self.assert_error(Conflict, pick, self.store, self.root, self.onto, paths=("b",))

    def test_onto_its_own_parent(self):
        self.assertEqual(pick(self.store, self.old, self.root), self.old)
        empty = self.commit({"a": X, "b": X}, self.root, time=3)
        self.assertEqual(pick(self.store, empty, self.root), empty)

    def test_conflicts(self):
        onto = self.commit({"a": Z, "b": X, "c": X}, self.root)
        before = self.store.ids()
        self.assert_error(Conflict, pick, self.store, self.old, onto, paths=("a", "c", "c/d"))
        self.assert_error(Conflict, lambda: pick(self.store, self.old, onto, revert=True), paths=("a",))
        self.assertEqual(self.store.ids(), before)

    def test_errors_of_the_commits(self):
        blob, tag = self.store.put(Blob("a")), self.store.put(Tag(self.old, label="v1"))
        before = self.store.ids()
        for thing in [*odd_things(), ONE]:
            self.assert_error(NoObject, pick, self.store, thing, self.onto, name=thing)
            self.assert_error(NoObject, pick, self.store, self.old, thing, name=thing)
        for name in (blob, tag, self.world.tree):
            self.assert_error(BadObject, pick, self.store, name, self.onto, at=0)
            self.assert_error(BadObject, pick, self.store, self.old, name, at=0)
            self.assert_error(BadObject, pick, self.store, name, ONE, at=0)
            self.assert_error(NoObject, pick, self.store, ONE, name, name=ONE)
        self.assertEqual(self.store.ids(), before)

    def test_wrong_times(self):
        for time in [*odd_things(), -1, 10 ** 12 + 1, "5", 1.0]:
            if time not in (None, 0, 1) or isinstance(time, (bool, float)):
                self.assert_error(BadName, lambda: pick(self.store, self.old, self.onto, time=time))

    def test_merges(self):
        merge = self.commit({}, self.root, self.old)
        self.assert_error(BadChange, pick, self.store, merge, self.onto)
        self.assert_error(BadChange, lambda: pick(self.store, merge, self.onto, revert=True))

    def test_the_order_of_the_errors(self):
        blob = self.store.put(Blob("a"))
        merge = self.bare(TWO, ONE, MOST)
        lost = self.bare(TWO, ONE)
        bad_tree = self.bare(TWO, self.root)
        bad_onto = self.bare(MOST, self.root)
        bad_parent = self.bare(TWO, blob)
        parent_without_tree = self.bare(TWO, bad_onto)
        self.assert_error(NoObject, lambda: pick(self.store, merge, ONE, time=-1), name=ONE)
        self.assert_error(BadName, lambda: pick(self.store, merge, bad_onto, time=-1))
        self.assert_error(BadChange, pick, self.store, merge, bad_onto)
        self.assert_error(NoObject, pick, self.store, lost, bad_onto, name=ONE)
        self.assert_error(BadObject, pick, self.store, bad_parent, bad_onto, at=0)
        self.assert_error(NoObject, pick, self.store, parent_without_tree, self.onto, name=MOST)
        self.assert_error(NoObject, pick, self.store, bad_tree, bad_onto, name=TWO)
        self.assert_error(NoObject, pick, self.store, self.old, bad_onto, name=MOST)
        odd = self.bare(blob, self.root)
        self.assert_error(BadObject, pick, self.store, odd, bad_onto, at=0)
        self.assert_error(BadObject, pick, self.store, self.old, odd, at=0)
        clash = self.commit({"a": Z}, self.root)
        self.assert_error(NoObject, pick, self.store, bad_tree, clash, name=TWO)

    def test_the_store_stays_where_an_error_is_raised(self):
        merge, lost = self.commit({}, self.root, self.old), self.bare(TWO, self.root)
        before = self.store.ids()
        self.assert_error(BadChange, pick, self.store, merge, self.onto)
        self.assert_error(NoObject, pick, self.store, lost, self.onto, name=TWO)
        self.assert_error(BadName, lambda: pick(self.store, self.old, self.onto, time=None if before == () else "x"))
        self.assertEqual(self.store.ids(), before)


class Steps(Replays):
    def setUp(self):
        super().setUp()
        self.root = self.commit({"a": X, "b": X}, time=1)
        self.one = self.commit({"a": Y, "b": X}, self.root, time=2, message="one")
        self.two = self.commit({"a": Y, "b": X, "c": X}, self.one, time=3, message="two", author="bob")
        self.three = self.commit({"a": Y, "b": Z, "c": X}, self.two, time=4, message="three")

    def state(self, replay):
        return (replay.stopped, replay.tip, replay.done())

    def test_no_commits(self):
        replay = Replay(self.store, (), self.root)
        self.assertEqual(self.state(replay), (None, self.root, []))
        self.assertIs(replay.step(), False)
        self.assertEqual(self.state(replay), (None, self.root, []))
        self.assert_error(BadChange, replay.skip)

    def test_step_by_step(self):
        onto = self.commit({"a": X, "b": X, "d": X}, self.root, time=9)
        replay = Replay(store=self.store, names=(self.one, self.two, self.three), onto=onto)
        self.assertEqual(self.state(replay), (None, onto, []))
        rows = []
        wanted = [{"a": Y, "b": X, "d": X}, {"a": Y, "b": X, "c": X, "d": X}, {"a": Y, "b": Z, "c": X, "d": X}]
        for old, files in zip((self.one, self.two, self.three), wanted):
            tip = replay.tip
            self.assertIs(replay.step(), True)
            rows.append((old, replay.tip))
            self.assertEqual(self.state(replay), (None, replay.tip, rows))
            new, before = self.store[replay.tip], self.store[old]
            self.assertEqual((new.parents, new.author, new.time, new.message),
                             ((tip,), before.author, before.time, before.message))
            self.assertEqual(self.files(replay.tip), files)
        self.assertIs(replay.step(), False)
        self.assertIs(replay.step(), False)
        self.assertEqual(self.state(replay), (None, rows[-1][1], rows))

    def test_onto_its_own_place(self):
        replay = Replay(self.store, (self.one, self.two, self.three), self.root)
        while replay.step():
            pass
        self.assertEqual(replay.done(), [(self.one, self.one), (self.two, self.two), (self.three, self.three)])
        self.assertEqual(replay.tip, self.three)

    def test_empty_commits_in_their_own_place(self):
        empty = self.commit({"a": X, "b": X}, self.root, time=5)
        after = self.commit({"a": X}, empty, time=6)
        replay = Replay(self.store, (empty, after), self.root)
        self.assertEqual([replay.step(), replay.step(), replay.step()], [True, True, False])
        self.assertEqual(replay.done(), [(empty, empty), (after, after)])

    def test_done_belongs_to_the_caller(self):
        replay = Replay(self.store, (self.one,), self.root)
        replay.done().append(1)
        replay.step()
        replay.done().clear()
        self.assertEqual(replay.done(), [(self.one, self.one)])

    def test_commits_that_become_empty(self):
        onto = self.commit({"a": Y, "b": X}, self.root, time=9)
        replay = Replay(self.store, (self.one, self.two), onto)
        self.assertIs(replay.step(), True)
        self.assertEqual(self.state(replay), (None, onto, [(self.one, None)]))
        self.assertIs(replay.step(), True)
        self.assertEqual(replay.done()[1], (self.two, replay.tip))
        self.assertEqual(self.store[replay.tip].parents, (onto,))
        self.assertEqual(self.files(replay.tip), {"a": Y, "b": X, "c": X})

    def test_commits_that_were_empty_before(self):
        empty = self.commit({"a": X, "b": X}, self.root, time=5, message="empty")
        for onto in (self.commit({"z": X}), self.commit({"a": X, "b": X}, time=4)):
            replay = Replay(self.store, (empty,), onto)
            self.assertIs(replay.step(), True)
            self.assertEqual(replay.done(), [(empty, replay.tip)])
            self.assertEqual((self.store[replay.tip].parents, self.store[replay.tip].message), ((onto,), "empty"))
            self.assertEqual(self.files(replay.tip), self.files(onto))

    def test_a_commit_twice(self):
        replay = Replay(self.store, (self.one, self.one), self.root)
        self.assertEqual([replay.step(), replay.step(), replay.step()], [True, True, False])
        self.assertEqual(replay.done(), [(self.one, self.one), (self.one, None)])

    def stopped(self):
        onto = self.commit({"a": Z, "b": X}, time=9)
        replay = Replay(self.store, (self.one, self.two, self.three), onto)
        self.assert_error(Conflict, replay.step, paths=("a",))
        self.assertEqual(self.state(replay), (self.one, onto, []))
        return replay, onto

    def test_calls_while_it_is_stopped(self):
        replay, onto = self.stopped()
        before = self.store.ids()
        self.assert_error(BadChange, replay.step)
        self.assert_error(BadChange, replay.step)
        self.assertEqual(self.state(replay), (self.one, onto, []))
        self.assertEqual(self.store.ids(), before)

    def test_settled(self):
        replay, onto = self.stopped()
        new = replay.settle({"b": Y, "a": Y})
        self.assertEqual(self.state(replay), (None, new, [(self.one, new)]))
        self.assertEqual(self.store[new], Commit(self.store.put_files({"a": Y, "b": Y}), (onto,), author="ann", time=2,
                                                 message="one"))
        self.assertIs(replay.step(), True)
        self.assertEqual(self.files(replay.tip), {"a": Y, "b": Y, "c": X})
        self.assertEqual(replay.done()[1], (self.two, replay.tip))
        self.assert_error(Conflict, replay.step, paths=("b",))
        self.assertEqual(replay.stopped, self.three)
        last = replay.settle(files={})
        self.assertEqual(self.state(replay), (None, last, [*replay.done()[:2], (self.three, last)]))
        self.assertIs(replay.step(), False)

    def test_what_is_settled_is_never_dropped(self):
        replay, onto = self.stopped()
        new = replay.settle(self.files(onto))
        self.assertEqual(self.state(replay), (None, new, [(self.one, new)]))
        self.assertEqual((self.store[new].tree, self.store[new].parents), (self.store[onto].tree, (onto,)))

    def test_skipped(self):
        replay, onto = self.stopped()
        self.assertIsNone(replay.skip())
        self.assertEqual(self.state(replay), (None, onto, [(self.one, None)]))
        self.assertIs(replay.step(), True)
        self.assertEqual(self.files(replay.tip), {"a": Z, "b": X, "c": X})

    def test_calls_at_the_wrong_moment(self):
        replay = Replay(self.store, (self.one,), self.root)
        for _ in range(2):
            self.assert_error(BadChange, replay.skip)
            self.assert_error(BadChange, replay.settle, {})
            self.assert_error(BadChange, replay.settle, None)
            replay.step()
        stopped = self.stopped()[0]
        stopped.skip()
        self.assert_error(BadChange, stopped.skip)
        self.assert_error(BadChange, stopped.settle, {"a": X})

    def test_errors_of_settled_files(self):
        replay, onto = self.stopped()
        before = self.store.ids()
        for wrong in [thing for thing in odd_things() if thing != {}] + [{"a": X, "a/b": X}, {"A": X}, {1: X}]:
            self.assert_error(BadPath, replay.settle, wrong)
        for wrong in ({"a": None}, {"a": ("dir", ONE)}, {f"n{at}": X for at in range(31)}):
            self.assert_error(BadName, replay.settle, wrong)
        self.assertEqual(self.state(replay), (self.one, onto, []))
        self.assertEqual(self.store.ids(), before)
        files = {"a": X}
        new = replay.settle(files)
        files["b"] = X
        self.assertEqual(self.files(new), {"a": X})

    def test_other_errors_do_not_stop_it(self):
        tree = Tree({"n": X})
        lost = self.bare(World().store.put(tree), self.root)
        replay = Replay(self.store, (lost,), self.root)
        for _ in range(2):
            self.assert_error(NoObject, replay.step, name=self.store[lost].tree)
            self.assertEqual(self.state(replay), (None, self.root, []))
        self.store.put(tree)
        self.assertIs(replay.step(), True)
        self.assertEqual(self.files(replay.tip), {"n": X})

    def test_wrong_names(self):
        for wrong in [thing for thing in odd_things() if not isinstance(thing, tuple)] + [[self.one], self.one]:
            self.assert_error(BadName, Replay, self.store, wrong, self.root)
            self.assert_error(BadName, Replay, self.store, wrong, None)
        for thing in [*odd_things(), ONE]:
            self.assert_error(NoObject, Replay, self.store, (thing,), self.root, name=thing)
            self.assert_error(NoObject, Replay, self.store, (self.one, thing), self.root, name=thing)
            self.assert_error(NoObject, Replay, self.store, (self.one,), thing, name=thing)
            self.assert_error(NoObject, Replay, self.store, (), thing, name=thing)

    def test_the_order_of_the_errors(self):
        merge = self.commit({}, self.one, self.two)
        blob = self.store.put(Blob("a"))
        for wrong in (merge, self.root):
            self.assert_error(BadChange, Replay, self.store, (wrong,), self.root)
            self.assert_error(BadChange, Replay, self.store, (self.one, wrong, ONE), ONE)
            self.assert_error(NoObject, Replay, self.store, (self.one, ONE, wrong), TWO, name=ONE)
            self.assert_error(BadObject, Replay, self.store, (blob, wrong), TWO, at=0)
            self.assert_error(BadChange, Replay, self.store, (wrong, blob), TWO)
        self.assert_error(BadObject, Replay, self.store, (self.one,), blob, at=0)
        self.assert_error(BadObject, Replay, self.store, (self.one, blob), TWO, at=0)

    def test_properties_are_read_alone(self):
        replay = Replay(self.store, (self.one,), self.root)
        for name in ("stopped", "tip"):
            with self.assertRaises(AttributeError):
                setattr(replay, name, None)


if __name__ == "__main__":
    unittest.main()
