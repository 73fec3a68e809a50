"""[10.1], [10.2] The search for a fault."""

import unittest

from forkhaul.errors import BadMark, BadObject, NoObject
from forkhaul.history import History
from forkhaul.objects import Blob, Tag
from forkhaul.search import Search
from tests.helpers import ONE, Case, Diamond, Plain, World, chance, odd_things


class PlainSearch:
    """The questions to a search, answered in the plainest way."""

    def __init__(self, plain, bads, goods, skips):
        self.plain = plain
        self.skips = skips
        left = set.intersection(*[plain.reached(name) for name in bads]) if bads else set()
        self.left = left - plain.reached(*goods)

    def next(self):
        many = len(self.left)
        rows = []
        for name in self.left:
            reached = len(self.plain.reached(name) & self.left)
            if name not in self.skips and reached < many:
                rows.append((max(reached, many - reached), -self.plain.store[name].time, name))
        return min(rows)[2] if rows else None

    def found(self):
        if len(self.left) == 1:
            return min(self.left)
        return tuple(sorted(self.left)) if self.left and self.next() is None else None


class Marks(Diamond):
    def setUp(self):
        super().setUp()
        self.top = self.world.commit("top", self.merge, time=5)
        self.search = Search(self.history)

    def state(self):
        return (self.search.candidates(), self.search.next(), self.search.found())

    def test_before_the_first_bad_mark(self):
        nothing = ((), None, None)
        self.assertEqual(self.state(), nothing)
        self.search.good(self.left)
        self.search.skip(self.right)
        self.search.good(self.alone)
        self.assertEqual(self.state(), nothing)
        self.assertEqual(Search(history=self.history).candidates(), ())

    def test_bad_marks(self):
        self.assertIsNone(self.search.bad(self.merge))
        self.assertEqual(self.search.candidates(), self.ascending(self.root, self.left, self.right, self.merge))
        self.search.bad(name=self.left)
        self.assertEqual(self.search.candidates(), self.ascending(self.root, self.left))
        self.search.bad(self.right)
        self.assertEqual(self.state(), ((self.root,), None, self.root))
        self.search.bad(self.right)
        self.assertEqual(self.state(), ((self.root,), None, self.root))

    def test_good_marks(self):
        self.search.bad(self.top)
        self.assertIsNone(self.search.good(self.left))
        self.assertEqual(self.search.candidates(), self.ascending(self.right, self.merge, self.top))
        self.search.good(name=self.left)
        self.search.good(self.root)
        self.search.good(self.alone)
        self.assertEqual(self.search.candidates(), self.ascending(self.right, self.merge, self.top))
        self.search.good(self.merge)
        self.assertEqual(self.state(), ((self.top,), None, self.top))

    def test_good_marks_ahead_of_the_first_bad_one(self):
        self.search.good(self.left)
        self.search.good(self.right)
        self.search.bad(self.top)
        self.assertEqual(self.search.candidates(), self.ascending(self.merge, self.top))

    def test_marks_that_would_leave_none(self):
        self.search.good(self.merge)
        for name in (self.merge, self.left, self.root):
            self.assert_error(BadMark, self.search.bad, name)
            self.assertEqual(self.state(), ((), None, None))
        self.search.bad(self.top)
        before = self.state()
        for ask, name in ((self.search.good, self.top), (self.search.bad, self.left), (self.search.bad, self.alone)):
            self.assert_error(BadMark, ask, name)
            self.assertEqual(self.state(), before)
        self.search.undo()
        self.search.undo()
        self.assert_error(BadMark, self.search.undo)

    def test_bad_commits_without_a_common_one(self):
        self.search.bad(self.top)
        self.assert_error(BadMark, self.search.bad, self.alone)
        self.assertEqual(len(self.search.candidates()), 5)

    def test_good_marks_without_a_bad_one_are_free(self):
        for name in (self.top, self.alone, self.root):
            self.search.good(name)
        self.assert_error(BadMark, self.search.bad, self.top)

    def test_undo_of_each(self):
        states = [self.state()]
        calls = ((self.search.bad, self.top), (self.search.skip, self.right), (self.search.good, self.root),
                 (self.search.good, self.root), (self.search.bad, self.merge), (self.search.skip, self.right),
                 (self.search.bad, self.merge), (self.search.good, self.left))
        for ask, name in calls:
            ask(name)
            states.append(self.state())
        self.assertEqual(len({repr(state) for state in states}), 6)
        while len(states) > 1:
            self.assertEqual(self.state(), states.pop())
            self.assertIsNone(self.search.undo())
        self.assertEqual(self.state(), states[0])

    def test_undo_of_none(self):
        self.assert_error(BadMark, self.search.undo)
        self.search.skip(self.root)
        self.search.undo()
        self.assert_error(BadMark, self.search.undo)

    def test_calls_that_raise_are_not_undone(self):
        self.search.bad(self.top)
        self.assert_error(BadMark, self.search.good, self.top)
        self.assert_error(NoObject, self.search.good, ONE, name=ONE)
        self.search.undo()
        self.assertEqual(self.state(), ((), None, None))
        self.assert_error(BadMark, self.search.undo)

    def test_a_search_knows_nothing_of_another_one(self):
        other = Search(self.history)
        self.search.bad(self.top)
        self.assertEqual((other.candidates(), len(self.search.candidates())), ((), 5))

    def test_wrong_names(self):
        store = self.world.store
        blob, tag = store.put(Blob("a")), store.put(Tag(self.root, label="v1"))
        lost, wrong = self.world.commit("lost", ONE, "0" * 16), self.world.commit("wrong", blob)
        self.search.bad(self.top)
        self.search.good(self.root)
        before = self.state()
        for ask in (self.search.bad, self.search.good, self.search.skip):
            for thing in [*odd_things(), ONE]:
                self.assert_error(NoObject, ask, thing, name=thing)
            for name in (blob, tag, self.world.tree, wrong):
                self.assert_error(BadObject, ask, name, at=0)
            self.assert_error(NoObject, ask, lost, name="0" * 16)
            self.assertEqual(self.state(), before)
        self.search.undo()
        self.assertEqual(len(self.search.candidates()), 5)

    def test_a_cut(self):
        search = Search(History(self.world.store, cut=(self.left, self.right)))
        search.bad(self.top)
        self.assertEqual(search.candidates(), self.ascending(self.left, self.right, self.merge, self.top))
        self.assert_error(BadMark, search.bad, self.root)

    def test_commits_that_are_put_later(self):
        self.search.bad(self.top)
        later = self.world.commit("later", self.top, time=9)
        self.assertEqual(len(self.search.candidates()), 5)
        self.search.bad(later)
        self.search.good(self.merge)
        self.assertEqual(self.search.found(), self.top)


class Next(Case):
    def setUp(self):
        self.world = World()

    def line(self, many, time=0):
        names = [self.world.commit("0", time=time)]
        for at in range(1, many):
            names.append(self.world.commit(str(at), names[-1], time=time))
        return names

    def search(self, bad, *goods):
        search = Search(History(self.world.store))
        search.bad(bad)
        for name in goods:
            search.good(name)
        return search

    def test_halves(self):
        for many in range(2, 12):
            names = self.line(many, time=many)
            middle = self.search(names[-1]).next()
            at = names.index(middle) + 1
            self.assertEqual(max(at, many - at), (many + 1) // 2)

    def test_equal_halves_by_time_and_id(self):
        root = self.world.commit("root", time=1)
        early, late = self.world.commit("early", root, time=3), self.world.commit("late", root, time=4)
        top = self.world.commit("top", early, late, time=9)
        self.assertEqual(self.search(top).next(), late)
        twin = self.world.commit("twin", root, time=4)
        top = self.world.commit("top", early, late, twin, time=9)
        self.assertEqual(self.search(top).next(), min(late, twin))
        self.assertEqual(self.search(top, root).next(), min(late, twin))

    def test_times_of_other_lengths(self):
        times = (9, 10, 10 ** 12, 999999999999, 0)
        names = [self.world.commit("t", time=time) for time in times]
        search = self.search(self.world.commit("top", *names, time=5))
        for at in (2, 3, 1, 0, 4):
            self.assertEqual(search.next(), names[at])
            search.skip(names[at])
        self.assertIsNone(search.next())

    def test_three_or_more_figures(self):
        names = self.line(120)
        self.assertEqual(self.search(names[-1]).next(), names[59])
        side = [self.world.commit(f"side {at}") for at in range(6)]
        search = self.search(self.world.commit("top", names[-1], *side[:5]))
        self.assertEqual(search.next(), names[62])

    def test_the_greatest_part_counts_either_way(self):
        names = self.line(3)
        self.assertEqual(self.search(self.world.commit("top", names[-1])).next(), names[1])
        wide = [self.world.commit(f"w{at}", time=at) for at in range(3)]
        self.assertEqual(self.search(self.world.commit("top", *wide, names[0])).next(), wide[2])

    def test_commits_that_reach_all(self):
        root = self.world.commit("root")
        search = self.search(root)
        self.assertEqual((search.next(), search.found()), (None, root))
        top = self.world.commit("top", root)
        self.assertEqual(self.search(top).next(), root)
        self.assertEqual(self.search(top, root).found(), top)

    def test_skips(self):
        names = self.line(5)
        search = self.search(names[-1])
        for wanted in sorted(names[1:3]) + sorted([names[0], names[3]]):
            self.assertEqual((search.next(), search.found()), (wanted, None))
            self.assertIsNone(search.skip(wanted))
            search.skip(name=wanted)
        self.assertIsNone(search.next())
        self.assertEqual(search.found(), tuple(sorted(names)))
        self.assertEqual(search.candidates(), tuple(sorted(names)))

    def test_skipped_commits_stay_candidates(self):
        names = self.line(3)
        search = self.search(names[-1])
        search.skip(names[1])
        self.assertEqual(search.next(), names[0])
        search.good(names[0])
        self.assertEqual((search.next(), search.found()), (None, tuple(sorted(names[1:]))))
        search.bad(names[1])
        self.assertEqual(search.found(), names[1])

    def test_a_skipped_commit_that_is_the_only_one(self):
        names = self.line(2)
        search = self.search(names[-1], names[0])
        search.skip(names[1])
        self.assertEqual((search.next(), search.found()), (None, names[1]))


class ToTheEnd(Case):
    def run_search(self, history, plain, top, fault, untested):
        search = Search(history)
        bads, goods, skips = [top], [], []
        search.bad(top)
        for _ in range(40):
            model = PlainSearch(plain, bads, goods, skips)
            name = search.next()
            self.assertEqual((search.candidates(), name, search.found()),
                             (tuple(sorted(model.left)), model.next(), model.found()))
            self.assertIn(fault, model.left)
            if search.found() is not None:
                return search.found()
            if name in untested:
                search.skip(name)
                skips.append(name)
            elif history.reaches(name, fault):
                search.bad(name)
                bads.append(name)
            else:
                search.good(name)
                goods.append(name)
        return self.fail("the search does not end")

    def test_each_fault_of_mixed_histories(self):
        numbers = chance(8)
        for seed in range(8):
            world = World()
            world.tossed(seed, 12)
            history, plain = History(world.store), Plain(world.store)
            names = [name for name in world.store.ids() if name != world.tree]
            top = max(names, key=lambda name: len(plain.reached(name)))
            for fault in plain.reached(top):
                self.assertEqual(self.run_search(history, plain, top, fault, ()), fault)
                untested = [name for name in names if next(numbers) % 3 == 0]
                found = self.run_search(history, plain, top, fault, untested)
                self.assertTrue(found == fault or fault in found)

    def test_each_fault_of_a_line_of_200(self):
        world = World()
        names = [world.commit("0")]
        while len(names) < 200:
            names.append(world.commit(str(len(names)), names[-1], time=len(names) // 3))
        history = History(world.store)
        for fault in names:
            search = Search(history)
            search.bad(names[-1])
            tests = 0
            while search.found() is None:
                name = search.next()
                (search.bad if history.reaches(name, fault) else search.good)(name)
                tests += 1
            self.assertEqual(search.found(), fault)
            self.assertTrue(tests <= 8)


if __name__ == "__main__":
    unittest.main()
