"""[3.2] Parts, walks and what is missing."""

import unittest

from forkhaul.errors import BadName, NoObject
from forkhaul.objects import Blob, Commit, Tag, Tree
from forkhaul.store import Store
from tests.helpers import MOST, ONE, TWO, ZERO, Case, chance, no_names, odd_things


class Sample(Case):
    """Two blobs, three trees, a line of three commits, a tag of the last one and a tag of this tag."""

    def setUp(self):
        store = self.store = Store()
        self.a = store.put(Blob("a"))
        self.b = store.put(Blob("b"))
        self.inner = store.put(Tree({"a": ("file", self.a)}))
        self.outer = store.put(Tree({"d": ("dir", self.inner), "b": ("exec", self.b)}))
        self.empty = store.put(Tree({}))
        self.one = store.put(Commit(self.inner, author="ann", time=1))
        self.two = store.put(Commit(self.outer, (self.one,), author="ann", time=2))
        self.three = store.put(Commit(self.empty, (self.two,), author="ann", time=3))
        self.tag = store.put(Tag(self.three, label="v1"))
        self.outer_tag = store.put(Tag(self.tag, label="v2"))

    def walked(self, *starts, **more):
        return list(self.store.walk(starts, **more))

    def grouped(self, *groups):
        return [name for group in groups for name in sorted(group)]


class Parts(Sample):
    def test_parts_of_each_kind(self):
        parts = self.store.parts
        self.assertEqual(parts(self.a), ())
        self.assertEqual(parts(self.empty), ())
        self.assertEqual(parts(self.outer), (self.b, self.inner))
        self.assertEqual(parts(self.one), (self.inner,))
        self.assertEqual(parts(name=self.two), (self.outer, self.one))
        self.assertEqual(parts(self.tag), (self.three,))
        for name in self.store.ids():
            self.assertIs(type(parts(name)), tuple)

    def test_their_order(self):
        tree = self.store.put(Tree({"c": ("file", ZERO), "a": ("file", MOST), "b": ("dir", ONE), "d": ("file", MOST)}))
        self.assertEqual(self.store.parts(tree), (MOST, ONE, ZERO, MOST))
        commit = self.store.put(Commit(TWO, (MOST, ZERO, ONE), author="ann", time=1))
        self.assertEqual(self.store.parts(commit), (TWO, MOST, ZERO, ONE))

    def test_what_is_absent(self):
        for thing in [*odd_things(), ONE, self.a[:-1]]:
            self.assert_error(NoObject, self.store.parts, thing, name=thing)


class Walks(Sample):
    def test_all_of_it(self):
        self.assertEqual(self.walked(self.outer_tag), self.grouped(
            [self.tag, self.outer_tag], [self.one, self.two, self.three], [self.inner, self.outer, self.empty],
            [self.a, self.b]))

    def test_starts(self):
        self.assertEqual(self.walked(), [])
        self.assertEqual(self.walked(self.a), [self.a])
        self.assertEqual(self.walked(self.a, self.a), [self.a])
        self.assertEqual(self.walked(self.inner), [self.inner, self.a])
        self.assertEqual(self.walked(self.one, self.b), self.grouped([self.one], [self.inner], [self.a, self.b]))
        self.assertEqual(self.walked(self.b, self.one), self.grouped([self.one], [self.inner], [self.a, self.b]))
        self.assertEqual(list(self.store.walk(starts=(self.a,), without=(), cut=())), [self.a])

    def test_without(self):
        self.assertEqual(self.walked(self.three, without=(self.two,)), self.grouped([self.three], [self.empty]))
        self.assertEqual(self.walked(self.three, without=(self.three,)), [])
        self.assertEqual(self.walked(self.three, without=(self.tag,)), [])
        self.assertEqual(self.walked(self.two, without=(self.three,)), [])
        self.assertEqual(self.walked(self.two, without=(self.inner,)),
                         self.grouped([self.one, self.two], [self.outer], [self.b]))
        self.assertEqual(self.walked(self.two, without=(self.a, self.b)),
                         self.grouped([self.one, self.two], [self.inner, self.outer]))
        self.assertEqual(self.walked(without=(self.two,)), [])

    def test_cut(self):
        self.assertEqual(self.walked(self.three, cut=(self.two,)),
                         self.grouped([self.two, self.three], [self.inner, self.outer, self.empty], [self.a, self.b]))
        self.assertEqual(self.walked(self.three, cut=(self.three,)), self.grouped([self.three], [self.empty]))
        self.assertEqual(self.walked(self.one, cut=(self.one,)), self.grouped([self.one], [self.inner], [self.a]))
        self.assertEqual(self.walked(self.three, cut=(ONE, self.a, self.empty)), self.walked(self.three))
        self.assertEqual(self.walked(self.tag, cut=(self.tag,)), self.walked(self.tag))

    def test_the_cut_counts_for_without(self):
        self.assertEqual(self.walked(self.one, without=(self.three,), cut=(self.three,)), self.walked(self.one))
        self.assertEqual(self.walked(self.two, self.one, without=(self.three,), cut=(self.two,)), [self.one])
        self.assertEqual(self.walked(self.one, without=(self.two,), cut=(self.two,)), [self.one])

    def test_absent_above(self):
        self.assert_error(NoObject, self.walked, ONE, name=ONE)
        self.assert_error(NoObject, self.walked, self.tag, TWO, ONE, name=ONE)
        lost = self.store.put(Commit(MOST, (TWO, ONE), author="ann", time=4))
        self.assert_error(NoObject, self.walked, lost, name=ONE)
        self.assert_error(NoObject, lambda: self.walked(lost, cut=(lost,)), name=MOST)
        self.assert_error(NoObject, lambda: self.walked(lost, without=(ONE,)), name=TWO)
        self.assertEqual(self.walked(lost, without=(ONE, TWO, MOST)), [lost])
        self.assertEqual(self.walked(lost, without=(MOST,), cut=(lost,)), [lost])

    def test_absent_in_without(self):
        self.assertEqual(self.walked(self.one, without=(ONE, ZERO)), self.walked(self.one))
        self.assertEqual(self.walked(ONE, without=(ONE,)), [])
        self.assertEqual(self.walked(ONE, self.a, without=(ONE,)), [self.a])

    def test_absent_below_without(self):
        lost = self.store.put(Commit(MOST, (TWO, self.one), author="ann", time=4))
        above = self.store.put(Commit(self.empty, (lost,), author="ann", time=5))
        self.assertEqual(self.walked(above, without=(lost,)), self.grouped([above], [self.empty]))
        self.assertEqual(self.walked(self.one, without=(lost,)), [])
        tree = self.store.put(Tree({"x": ("file", MOST), "y": ("file", self.b)}))
        self.assertEqual(self.walked(tree, without=(lost,)), [tree, self.b])
        self.assertEqual(self.walked(TWO, MOST, without=(lost,)), [])
        self.assert_error(NoObject, lambda: self.walked(TWO, MOST, without=(lost,), cut=(lost,)), name=TWO)

    def test_absent_beside_without(self):
        other = self.store.put(Commit(self.empty, (self.one, TWO), author="ann", time=4))
        self.assert_error(NoObject, lambda: self.walked(other, without=(self.three,)), name=TWO)
        self.assert_error(NoObject, lambda: self.walked(other, MOST, without=(self.three, MOST)), name=TWO)

    def test_each_once(self):
        merge = self.store.put(Commit(self.inner, (self.two, self.one), author="ann", time=4))
        names = self.walked(merge, self.two, self.one, merge, self.inner)
        self.assertEqual(len(names), len(set(names)))
        self.assertEqual(names, self.grouped([merge, self.one, self.two], [self.inner, self.outer], [self.a, self.b]))

    def test_wrong_arguments(self):
        good = (self.one,)
        for wrong in no_names():
            self.assert_generator_error(BadName, self.store.walk, wrong)
            self.assert_generator_error(BadName, lambda: self.store.walk(good, without=wrong))
            self.assert_generator_error(BadName, lambda: self.store.walk(good, cut=wrong))
            self.assert_generator_error(BadName, lambda: self.store.walk((ONE,), cut=wrong))

    def test_errors_come_before_the_first_id(self):
        steps = self.store.walk((self.tag, ONE))
        self.assert_error(NoObject, lambda: next(steps), name=ONE)
        self.assertEqual(list(steps), [])
        steps = self.store.walk((self.a,))
        self.assertEqual(next(steps), self.a)
        self.assertEqual(list(steps), [])

    def test_by_name_only(self):
        self.assertRaises(TypeError, self.store.walk, (self.a,), ())
        self.assertRaises(TypeError, self.store.missing, (self.a,), ())


class Missing(Sample):
    def test_nothing(self):
        self.assertEqual(self.store.missing(()), ())
        self.assertEqual(self.store.missing((self.outer_tag,)), ())
        self.assertEqual(self.store.missing(starts=(self.a, self.a)), ())

    def test_all_absent_ids(self):
        lost = self.store.put(Commit(MOST, (TWO, self.one, ONE), author="ann", time=4))
        tag = self.store.put(Tag(lost, label="v3"))
        tree = self.store.put(Tree({"x": ("file", ZERO), "y": ("dir", MOST)}))
        self.assertEqual(self.store.missing((tag,)), (ONE, TWO, MOST))
        self.assertEqual(self.store.missing((tag, tree, ZERO)), (ZERO, ONE, TWO, MOST))
        self.assertEqual(self.store.missing((MOST, ZERO, MOST)), (ZERO, MOST))
        self.assertEqual(self.store.missing((tag,), cut=(lost,)), (MOST,))
        self.assertEqual(self.store.missing((tag,), cut=(tag, TWO)), (ONE, TWO, MOST))

    def test_wrong_arguments(self):
        for wrong in no_names():
            self.assert_error(BadName, self.store.missing, wrong)
            self.assert_error(BadName, lambda: self.store.missing((self.one,), cut=wrong))


class AgainstAPlainSearch(Case):
    def reached(self, store, starts, cut):
        found = set()

        def visit(name):
            if name in found:
                return
            found.add(name)
            if name in store:
                thing = store[name]
                parts = store.parts(name)
                for part in parts[:1] if isinstance(thing, Commit) and name in cut else parts:
                    visit(part)
        for name in starts:
            visit(name)
        return found

    def rank(self, store, name):
        kinds = (Tag, Commit, Tree, Blob)
        return [isinstance(store[name], kind) for kind in kinds].index(True), name

    def test_mixed_objects(self):
        numbers = chance(3)

        def pick(rows):
            return rows[next(numbers) % len(rows)]

        for _ in range(60):
            store = Store()
            names = [store.put(Blob("a")), ONE, MOST]
            commits = []
            for at in range(25):
                kind = next(numbers) % 4
                if kind == 0:
                    names.append(store.put(Tree({f"x{k}": ("file", pick(names)) for k in range(next(numbers) % 4)})))
                elif kind == 1:
                    names.append(store.put(Tag(pick(names), label=f"t{at}")))
                else:
                    parents = tuple(sorted({pick(names) for _ in range(next(numbers) % 3)}))
                    commits.append(store.put(Commit(pick(names), parents, author="ann", time=at)))
                    names.append(commits[-1])
            starts = tuple([pick(names) for _ in range(next(numbers) % 4)])
            without = tuple([pick(names) for _ in range(next(numbers) % 3)])
            cut = tuple([pick(names) for _ in range(next(numbers) % 4)])
            wanted = self.reached(store, starts, cut) - self.reached(store, without, cut)
            absent = sorted([name for name in wanted if name not in store])
            if absent:
                self.assert_error(NoObject, lambda: list(store.walk(starts, without=without, cut=cut)),
                                  name=absent[0])
            else:
                self.assertEqual(list(store.walk(starts, without=without, cut=cut)),
                                 sorted(wanted, key=lambda name: self.rank(store, name)))
            missing = sorted([name for name in self.reached(store, starts, cut) if name not in store])
            self.assertEqual(store.missing(starts, cut=cut), tuple(missing))


if __name__ == "__main__":
    unittest.main()
