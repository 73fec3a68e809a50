"""[14.1] What a copy of a limited depth keeps, and where it ends."""

import unittest

from forkhaul.cuts import shallow
from forkhaul.errors import BadCommand, BadName, BadObject, NoObject
from forkhaul.history import History
from forkhaul.objects import Blob, Commit, Tag
from tests.helpers import MOST, ONE, TWO, ZERO, Case, World, chance, no_names, odd_things

NO_DEPTHS = [thing for thing in odd_things() if not (isinstance(thing, int) and thing == 1)] + [True, 0, 201, 10 ** 30, "1"]


def distances(store, starts, cut):
    """The least number of steps to each commit, by steps that lengthen a way by one until nothing gets shorter."""
    known = {name: 0 for name in starts}
    while True:
        more = dict(known)
        for name in known:
            for parent in () if name in cut else store[name].parents:
                more[parent] = min(more.get(parent, 1000), known[name] + 1)
        if more == known:
            return known
        known = more


def worked_out(store, starts, depth, cut=()):
    kept = [name for name, far in distances(store, starts, cut).items() if far < depth]
    ends = [name for name in kept if any([parent not in kept for parent in store[name].parents])
            or (name in cut and store[name].parents)]
    return tuple(sorted(kept)), tuple(sorted(ends))


class Copies(Case):
    def setUp(self):
        self.world = World()
        self.store = self.world.store

    def check(self, heads, starts, cut=(), depths=range(1, 9)):
        """Each depth, and that with the ends as the cut the heads reach exactly what is kept."""
        for depth in depths:
            kept, ends = shallow(self.store, heads, depth, cut=cut)
            self.assertEqual((kept, ends), worked_out(self.store, starts, depth, cut))
            span = History(self.store, cut=ends).span(tuple(starts))
            self.assertEqual(span.ids(), kept)

    def test_the_example(self):
        commit = self.world.commit
        a = commit("a")
        b = commit("b", a)
        c = commit("c", a, b)
        self.assertEqual(shallow(self.store, (c,), 2), (tuple(sorted([a, b, c])), ()))
        self.assertEqual(shallow(self.store, (c,), 1), ((c,), (c,)))
        self.check((c,), (c,))

    def test_a_line(self):
        names = [self.world.commit("0")]
        for at in range(1, 6):
            names.append(self.world.commit(str(at), names[-1]))
        for depth in range(1, 8):
            kept, ends = shallow(self.store, (names[-1],), depth)
            self.assertEqual(kept, tuple(sorted(names[-depth:])))
            self.assertEqual(ends, (names[-depth],) if depth < 6 else ())
        self.assertEqual(shallow(self.store, (names[-1],), 3, cut=(names[4],)), (
            tuple(sorted(names[4:])), (names[4],)))
        self.assertEqual(shallow(self.store, (names[-1],), 200), (tuple(sorted(names)), ()))
        self.assertEqual(shallow(store=self.store, heads=(), depth=1, cut=()), ((), ()))

    def test_forks_crosswise_merges_and_several_heads(self):
        commit = self.world.commit
        roots = [commit("r0"), commit("r1")]
        left, right = commit("left", *roots), commit("right", *roots[::-1])
        tops = [commit("t0", left, right), commit("t1", right, left, roots[0])]
        side = commit("side", roots[1])
        for heads in ((tops[0],), (tops[1],), tuple(tops), (tops[0], side), (side, tops[1], side), (left, tops[0])):
            self.check(heads, heads)
            self.check(heads, heads, cut=(left,))
            self.check(heads, heads, cut=(left, roots[0], side, MOST))

    def test_a_commit_of_the_cut_ends_the_copy_even_if_its_parents_are_kept(self):
        commit = self.world.commit
        root = commit("root")
        low = commit("low", root)
        top = commit("top", low, root)
        self.assertEqual(shallow(self.store, (top,), 5, cut=(low,)), (tuple(sorted([root, low, top])), (low,)))
        self.assertEqual(shallow(self.store, (top,), 5, cut=(root,)), (tuple(sorted([root, low, top])), ()))
        self.check((top,), (top,), cut=(low, root))

    def test_tags_and_heads_that_lead_to_no_commit(self):
        commit = self.world.commit
        root = commit("root")
        top = commit("top", root)
        tag = self.store.put(Tag(top, label="v1"))
        outer = self.store.put(Tag(tag, label="v2"))
        blob = self.store.put(Blob("a"))
        odd = self.store.put(Tag(blob, label="v3"))
        self.assertEqual(shallow(self.store, (outer, odd, blob, self.world.tree), 1), ((top,), (top,)))
        self.assertEqual(shallow(self.store, (odd, blob), 7), ((), ()))
        self.check((outer, root, odd), (top, root))

    def test_drawn_histories(self):
        numbers = chance(14)
        for seed in range(12):
            world = self.world = World()
            self.store = world.store
            names = world.tossed(seed, 14)
            heads = tuple([names[next(numbers) % 14] for _ in range(next(numbers) % 3 + 1)])
            cut = tuple([names[next(numbers) % 14] for _ in range(next(numbers) % 4)])
            self.check(heads, heads)
            self.check(heads, heads, cut=cut)

    def test_the_depth_200_of_200_commits(self):
        names = [self.world.commit("0")]
        for at in range(1, 200):
            names.append(self.world.commit(str(at), names[-1]))
        self.assertEqual(shallow(self.store, (names[-1],), 200), (tuple(sorted(names)), ()))
        self.assertEqual(shallow(self.store, (names[-1],), 199), (tuple(sorted(names[1:])), (names[1],)))

    def test_a_ladder_with_more_ways_than_can_be_counted(self):
        pair = (self.world.commit("l0"), self.world.commit("r0"))
        rungs = [pair]
        for at in range(1, 95):
            pair = (self.world.commit(f"l{at}", *pair), self.world.commit(f"r{at}", *pair[::-1]))
            rungs.append(pair)
        for depth in (1, 40, 94, 95, 200):
            kept, ends = shallow(self.store, pair, depth)
            self.assertEqual(kept, tuple(sorted([name for rung in rungs[-depth:] for name in rung])))
            self.assertEqual(ends, tuple(sorted(rungs[-depth])) if depth < 95 else ())

    def test_the_store_does_not_change(self):
        self.world.tossed(3, 5)
        before = self.store.ids()
        shallow(self.store, before[:1], 2)
        self.assertEqual(self.store.ids(), before)


class Errors(Case):
    def setUp(self):
        self.world = World()
        self.store = self.world.store
        self.root = self.world.commit("root")

    def test_wrong_arguments(self):
        for thing in no_names():
            self.assert_error(BadName, shallow, self.store, thing, 1)
            self.assert_error(BadName, shallow, self.store, thing, 0)
            self.assert_error(BadName, lambda: shallow(self.store, (self.root,), 1, cut=thing))
        for thing in NO_DEPTHS:
            self.assert_error(BadCommand, shallow, self.store, (self.root,), thing)
            self.assert_error(BadCommand, lambda: shallow(self.store, (ONE,), thing, cut=None))
        self.assert_error(BadName, lambda: shallow(self.store, (ONE,), 1, cut=None))

    def test_what_is_absent(self):
        far = self.world.commit("far", TWO)
        near = self.world.commit("near", far, ONE)
        tag = self.store.put(Tag(ZERO, label="v1"))
        outer = self.store.put(Tag(tag, label="v2"))
        self.assertEqual(shallow(self.store, (near,), 1), ((near,), (near,)))
        self.assert_error(NoObject, shallow, self.store, (near,), 2, name=ONE)
        self.assert_error(NoObject, shallow, self.store, (near,), 3, name=ONE)
        self.assertEqual(shallow(self.store, (far,), 1), ((far,), (far,)))
        self.assert_error(NoObject, shallow, self.store, (far, near), 2, name=ONE)
        self.assert_error(NoObject, shallow, self.store, (far, MOST), 1, name=MOST)
        self.assert_error(NoObject, shallow, self.store, (far, MOST), 2, name=TWO)
        self.assert_error(NoObject, shallow, self.store, (near, outer), 5, name=ZERO)
        self.assertEqual(shallow(self.store, (near,), 5, cut=(near, MOST)), ((near,), (near,)))
        self.assert_error(NoObject, lambda: shallow(self.store, (near,), 5, cut=(far,)), name=ONE)

    def test_a_parent_that_is_no_commit(self):
        blob = self.store.put(Blob("a"))
        odd = self.world.commit("odd", blob)
        top = self.world.commit("top", odd)
        tagged = self.world.commit("tagged", self.store.put(Tag(self.root, label="v1")))
        self.assertEqual(shallow(self.store, (top,), 2), (tuple(sorted([top, odd])), (odd,)))
        self.assert_error(BadObject, shallow, self.store, (top,), 3, at=0)
        self.assert_error(BadObject, shallow, self.store, (blob, odd), 2, at=0)
        self.assert_error(BadObject, shallow, self.store, (tagged,), 2, at=0)
        self.assertEqual(shallow(self.store, (top,), 3, cut=(odd,))[1], (odd,))

    def test_what_is_absent_goes_ahead_of_what_is_no_commit(self):
        blob = self.store.put(Blob("a"))
        odd = self.world.commit("odd", blob)
        lost = self.world.commit("lost", self.world.commit("lower", ONE))
        self.assert_error(BadObject, shallow, self.store, (odd, lost), 2, at=0)
        self.assert_error(NoObject, shallow, self.store, (odd, lost), 3, name=ONE)

    def test_a_commit_with_an_absent_tree(self):
        name = self.store.put(Commit(ONE, author="ann", time=1))
        self.assertEqual(shallow(self.store, (name,), 2), ((name,), ()))


if __name__ == "__main__":
    unittest.main()
