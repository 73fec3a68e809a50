"""[3.1] The store."""

import unittest

from forkhaul.codes import id_of
from forkhaul.errors import BadName, Clash, NoObject
from forkhaul.objects import Blob, Commit, Tag, Tree
from forkhaul.store import Store
from tests.helpers import ONE, Case, odd_things


def clashing():
    """Two different blobs with one short id."""
    known = {}
    for number in range(252):
        blob = Blob(f"number {number}")
        name = id_of(blob, short=True)
        if name in known:
            return known[name], blob, name
        known[name] = blob
    raise AssertionError("252 blobs have 252 short ids")


class Stores(Case):
    def full(self):
        store = Store()
        blob = store.put(Blob("a"))
        tree = store.put(Tree({"a": ("file", blob)}))
        commit = store.put(Commit(tree, author="ann", time=1))
        tag = store.put(Tag(commit, label="v1"))
        return store, (blob, tree, commit, tag)

    def test_put_and_ask(self):
        store = Store()
        self.assertEqual((len(store), store.ids()), (0, ()))
        for thing in (Blob("a"), Tree({}), Commit(ONE, author="ann", time=1), Tag(ONE, label="v1")):
            name = store.put(thing)
            self.assertEqual(name, id_of(thing))
            self.assertEqual(store[name], thing)
            self.assertTrue(name in store)
        self.assertEqual(len(store), 4)
        self.assertEqual(Store().put(thing=Blob("a")), id_of(Blob("a")))

    def test_put_again(self):
        store, names = self.full()
        self.assertEqual(store.put(Blob("a")), names[0])
        self.assertEqual(len(store), 4)

    def test_parts_need_not_be_there(self):
        store = Store()
        name = store.put(Tag(ONE, label="v1"))
        self.assertEqual(store.ids(), (name,))
        self.assertFalse(ONE in store)

    def test_ids_ascend(self):
        store = Store()
        names = [store.put(Blob(f"text {number}")) for number in range(40)]
        self.assertEqual(store.ids(), tuple(sorted(names)))
        self.assertIs(type(store.ids()), tuple)
        self.assertEqual(len(store), 40)

    def test_what_is_not_there(self):
        store, names = self.full()
        for thing in [*odd_things(), ONE, names[0][:-1], names[0] + "0", names[0].upper() + "X", (names[0],)]:
            self.assert_error(NoObject, lambda: store[thing], name=thing)
            self.assertIs(thing in store, False)
        for name in names:
            self.assertIs(name in store, True)

    def test_what_cannot_be_put(self):
        store, names = self.full()
        for thing in [*odd_things(), "a", names[0], b"blob\na"]:
            if not isinstance(thing, (Blob, Tree, Commit, Tag)):
                self.assert_error(BadName, store.put, thing)
        self.assertEqual(store.ids(), tuple(sorted(names)))

    def test_it_is_not_iterated_over(self):
        self.assertRaises(TypeError, iter, self.full()[0])

    def test_short_by_name_only(self):
        self.assertRaises(TypeError, Store, True)
        self.assertEqual(Store(short=False).put(Blob("a")), id_of(Blob("a")))

    def test_copies(self):
        store, names = self.full()
        other = store.copied()
        self.assertIs(type(other), Store)
        self.assertEqual(other.ids(), store.ids())
        self.assertEqual([other[name] for name in names], [store[name] for name in names])
        mine, theirs = store.put(Blob("mine")), other.put(Blob("theirs"))
        self.assertTrue(mine in store and theirs in other)
        self.assertFalse(mine in other or theirs in store)
        self.assertEqual((len(store), len(other)), (5, 5))

    def test_two_stores_are_apart(self):
        one, other = Store(), Store()
        one.put(Blob("a"))
        self.assertEqual(len(other), 0)


class ShortIds(Case):
    def test_they_are_short(self):
        store = Store(short=True)
        name = store.put(Blob("a"))
        self.assertEqual(name, id_of(Blob("a"), short=True))
        self.assertEqual(store[name], Blob("a"))
        tree = store.put_files({"a/b": ("file", name)})
        self.assertTrue(int(tree, 16) < 251)

    def test_a_clash_changes_nothing(self):
        one, other, name = clashing()
        store = Store(short=True)
        self.assertEqual(store.put(one), name)
        self.assert_error(Clash, store.put, other, name=name)
        self.assertEqual((store.ids(), store[name]), ((name,), one))
        self.assertEqual(store.put(one), name)
        self.assertEqual(len(store), 1)
        turned = Store(short=True)
        self.assertEqual(turned.put(other), name)
        self.assert_error(Clash, turned.put, one, name=name)

    def test_a_clash_of_different_kinds(self):
        store = Store(short=True)
        clashes = 0
        for number in range(600):
            thing = Blob(str(number)) if number % 2 else Tag(ONE, label=f"v{number}")
            name = id_of(thing, short=True)
            if name in store:
                before = store[name]
                self.assert_error(Clash, store.put, thing, name=name)
                self.assertEqual(store[name], before)
                clashes += 1
            else:
                self.assertEqual(store.put(thing), name)
        self.assertTrue(len(store) <= 251)
        self.assertEqual(len(store) + clashes, 600)

    def test_a_copy_has_short_ids_too(self):
        one, other, name = clashing()
        store = Store(short=True)
        store.put(one)
        copy = store.copied()
        self.assert_error(Clash, copy.put, other, name=name)
        fresh = Store(short=True).copied()
        self.assertEqual(fresh.put(other), name)

    def test_clashing_files_change_nothing(self):
        clashes = 0
        for number in range(40):
            store = Store(short=True)
            for count in range(30):
                before = store.ids()
                files = {f"d{count}/e{number}/{at}": ("file", f"{at:016x}") for at in range(3)}
                files[f"d{count}/x"] = ("exec", ONE)
                things = [store[name] for name in before]
                try:
                    root = store.put_files(files)
                except Clash as error:
                    clashes += 1
                    self.assertRegex(error.name, "^[0-9a-f]{16}$")
                    self.assertEqual(store.ids(), before)
                    self.assertEqual([store[name] for name in before], things)
                else:
                    self.assertEqual(store.files_of(root), files)
        self.assertTrue(clashes > 0)

    def test_files_that_clash_with_what_is_there(self):
        wanted = id_of(Tree({"a": ("file", ONE)}), short=True)
        for number in range(5000):
            blob = Blob(f"number {number}")
            if id_of(blob, short=True) == wanted:
                store = Store(short=True)
                store.put(blob)
                self.assert_error(Clash, store.put_files, {"a": ("file", ONE)}, name=wanted)
                self.assertEqual((store.ids(), store[wanted]), ((wanted,), blob))
                return
        self.fail("no blob clashes with the tree")

    def test_files_that_clash_among_themselves(self):
        for number in range(2000):
            inner = Tree({f"x{number}": ("file", ONE)})
            outer = Tree({"d": ("dir", id_of(inner, short=True))})
            if id_of(inner, short=True) == id_of(outer, short=True):
                store = Store(short=True)
                self.assert_error(Clash, store.put_files, {f"d/x{number}": ("file", ONE)},
                                  name=id_of(outer, short=True))
                self.assertEqual(len(store), 0)
                return
        self.fail("no files clash among themselves")


if __name__ == "__main__":
    unittest.main()
