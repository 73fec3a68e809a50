"""[4.1] Histories."""

import unittest

from forkhaul.errors import BadName, BadObject, NoObject
from forkhaul.history import History, commit_of
from forkhaul.objects import Blob, Commit, Tag, Tree
from forkhaul.store import Store
from tests.helpers import MOST, ONE, TWO, ZERO, Case, Diamond, Plain, World, no_names, odd_things

NO_TUPLES = [thing for thing in odd_things() if not isinstance(thing, tuple)] + ["a", [ONE], ONE]


class CommitOf(Case):
    def test_it(self):
        world = World()
        name = world.commit("a")
        self.assertEqual(commit_of(world.store, name), Commit(world.tree, author="ann", time=0, message="a"))
        self.assertEqual(commit_of(store=world.store, name=name), world.store[name])

    def test_errors(self):
        world = World()
        for thing in [*odd_things(), ONE]:
            self.assert_error(NoObject, commit_of, world.store, thing, name=thing)
        tag = world.store.put(Tag(world.commit("a"), label="v1"))
        for name in (world.tree, world.store.put(Blob("a")), tag):
            self.assert_error(BadObject, commit_of, world.store, name, at=0)


class Making(Case):
    def test_cuts(self):
        store = Store()
        History(store, cut=(ONE, TWO, ONE))
        History(store=store)
        for wrong in no_names():
            self.assert_error(BadName, lambda: History(store, cut=wrong))
        self.assertRaises(TypeError, History, store, ())


class SmallHistories(Diamond):
    def setUp(self):
        super().setUp()
        self.cross = self.world.commit("cross", self.right, self.left, time=5)

    def test_parents(self):
        self.assertEqual(self.history.parents_of(self.root), ())
        self.assertEqual(self.history.parents_of(name=self.merge), (self.left, self.right))
        self.assertEqual(self.history.parents_of(self.cross), (self.right, self.left))
        cut = History(self.world.store, cut=(self.merge, ONE))
        self.assertEqual(cut.parents_of(self.merge), ())
        self.assertEqual(cut.parents_of(self.cross), (self.right, self.left))

    def test_files(self):
        store = self.world.store
        files = {"a": ("file", ONE), "b/c": ("exec", TWO)}
        name = store.put(Commit(store.put_files(files), (self.root,), author="ann", time=1))
        self.assertEqual(self.history.files(name), files)
        self.assertEqual(self.history.files(name=self.root), {})
        self.assertEqual(History(store, cut=(name,)).files(name), files)
        self.history.files(name)["x"] = 1
        self.assertEqual(self.history.files(name), files)

    def test_errors_of_files(self):
        store = self.world.store
        lost = store.put(Commit(MOST, author="ann", time=1))
        self.assert_error(NoObject, self.history.files, lost, name=MOST)
        wrong = store.put(Commit(self.root, author="ann", time=1))
        self.assert_error(BadObject, self.history.files, wrong, at=0)
        deep = store.put(Commit(store.put(Tree({"a": ("dir", TWO), "b": ("dir", ONE)})), author="ann", time=1))
        self.assert_error(NoObject, self.history.files, deep, name=ONE)
        below = store.put(Commit(self.world.tree, (lost, ZERO), author="ann", time=1))
        self.assertEqual(self.history.files(below), {})

    def test_reaches(self):
        reaches = self.history.reaches
        self.assertIs(reaches(self.merge, self.root), True)
        self.assertIs(reaches(self.root, self.merge), False)
        self.assertIs(reaches(self.left, self.left), True)
        self.assertIs(reaches(self.left, self.right), False)
        self.assertIs(reaches(one=self.cross, other=self.left), True)
        self.assertIs(reaches(self.merge, self.alone), False)
        cut = History(self.world.store, cut=(self.left,))
        self.assertIs(cut.reaches(self.left, self.root), False)
        self.assertIs(cut.reaches(self.left, self.left), True)
        self.assertIs(cut.reaches(self.merge, self.left), True)
        self.assertIs(cut.reaches(self.merge, self.root), True)

    def test_generation(self):
        names = (self.root, self.left, self.merge, self.cross, self.alone)
        self.assertEqual([self.history.generation(name) for name in names], [1, 2, 3, 3, 1])
        longer = self.world.commit("longer", self.root, self.merge)
        self.assertEqual(self.history.generation(name=longer), 4)
        self.assertEqual(History(self.world.store, cut=(self.merge,)).generation(longer), 2)
        self.assertEqual(History(self.world.store, cut=(longer,)).generation(longer), 1)

    def test_order(self):
        names = (self.root, self.merge, self.left, self.alone, self.right)
        self.assertEqual(list(self.history.order(names)), [self.alone, self.merge, self.right, self.left, self.root])
        self.assertEqual(list(self.history.order(names=())), [])
        self.assertEqual(list(self.history.order((self.left, self.root, self.left))), [self.left, self.root])

    def test_order_of_these_names_alone(self):
        self.assertEqual(list(self.history.order((self.root, self.merge))), [self.merge, self.root])
        late = self.world.commit("late", time=100)
        middle = self.world.commit("middle", late, time=0)
        early = self.world.commit("early", middle, time=0)
        self.assertEqual(list(self.history.order((late, early))), [early, late])
        self.assertEqual(list(self.history.order((late, early, self.root))), [self.root, early, late])
        cut = History(self.world.store, cut=(middle,))
        self.assertEqual(list(cut.order((late, early))), [late, early])

    def test_order_of_equal_times(self):
        names = tuple([self.world.commit(f"n{number}", time=7) for number in range(20)])
        self.assertEqual(list(self.history.order(names)), sorted(names))
        times = (0, 5, 10 ** 12, 999999999999, 10, 9, 100000)
        names = tuple([self.world.commit("t", time=time) for time in times])
        shown = [self.world.store[name].time for name in self.history.order(names)]
        self.assertEqual(shown, sorted(times, reverse=True))

    def test_first_parents(self):
        self.assertEqual(list(self.history.first_parents(self.merge)), [self.merge, self.left, self.root])
        self.assertEqual(list(self.history.first_parents(name=self.cross)), [self.cross, self.right, self.root])
        self.assertEqual(list(self.history.first_parents(self.root)), [self.root])
        cut = History(self.world.store, cut=(self.left,))
        self.assertEqual(list(cut.first_parents(self.merge)), [self.merge, self.left])

    def test_independent(self):
        independent = self.history.independent
        self.assertEqual(independent(()), ())
        self.assertEqual(independent((self.root, self.root)), (self.root,))
        self.assertEqual(independent((self.left, self.root, self.right)), self.ascending(self.left, self.right))
        self.assertEqual(independent((self.merge, self.root)), (self.merge,))
        self.assertEqual(independent((self.root, self.cross, self.alone, self.merge)),
                         self.ascending(self.cross, self.alone, self.merge))
        self.assertEqual(independent(names=(self.merge, self.left, self.merge)), (self.merge,))
        cut = History(self.world.store, cut=(self.merge,))
        self.assertEqual(cut.independent((self.merge, self.root)), self.ascending(self.merge, self.root))

    def test_bases(self):
        bases = self.history.bases
        self.assertEqual(bases(self.left, self.right), (self.root,))
        self.assertEqual(bases(self.merge, self.cross), self.ascending(self.left, self.right))
        self.assertEqual(bases(self.merge, self.left), (self.left,))
        self.assertEqual(bases(one=self.left, other=self.merge), (self.left,))
        self.assertEqual(bases(self.merge, self.merge), (self.merge,))
        self.assertEqual(bases(self.merge, self.alone), ())
        self.assertEqual(History(self.world.store, cut=(self.left,)).bases(self.left, self.right), ())

    def test_ahead_behind(self):
        self.assertEqual(self.history.ahead_behind(self.merge, self.root), (3, 0))
        self.assertEqual(self.history.ahead_behind(self.root, self.merge), (0, 3))
        self.assertEqual(self.history.ahead_behind(self.left, self.left), (0, 0))
        self.assertEqual(self.history.ahead_behind(one=self.merge, other=self.cross), (1, 1))
        self.assertEqual(self.history.ahead_behind(self.alone, self.merge), (1, 4))
        cut = History(self.world.store, cut=(self.left,))
        self.assertEqual(cut.ahead_behind(self.left, self.right), (1, 2))

    def test_commits_that_are_put_later_count(self):
        later = Commit(self.world.tree, (self.merge,), author="bob", time=9)
        other = World()
        other.tree = self.world.tree
        child = self.world.store.put(Commit(self.world.tree, (other.store.put(later),), author="bob", time=9))
        self.assert_error(NoObject, self.history.generation, child, name=self.history.parents_of(child)[0])
        name = self.world.store.put(later)
        self.assertEqual(self.history.generation(name), 4)
        self.assertEqual(self.history.generation(child), 5)
        self.assertIs(self.history.reaches(child, self.root), True)


class Errors(Case):
    def setUp(self):
        world = self.world = World()
        self.store = world.store
        self.good = world.commit("good")
        self.blob = self.store.put(Blob("a"))
        self.tag = self.store.put(Tag(self.good, label="v1"))
        self.lost = world.commit("lost", TWO, ONE)
        self.lower = world.commit("lower", ZERO, self.good)
        self.wrong = world.commit("wrong", self.blob, self.good)
        self.both = world.commit("both", self.blob, MOST)
        self.lost_too = world.commit("lost too", ONE, TWO)
        self.both_too = world.commit("both too", MOST, self.blob)
        self.history = History(self.store)

    def of_one_name(self):
        """Methods of one name that look behind it."""
        history = self.history
        return [history.generation, lambda name: list(history.first_parents(name))]

    def of_names(self):
        history = self.history
        return [lambda names: list(history.order(names)), history.independent, history.span]

    def of_two_names(self):
        return [self.history.reaches, self.history.bases, self.history.ahead_behind]

    def test_absent_names(self):
        for thing in [*odd_things(), ONE]:
            for ask in [*self.of_one_name(), self.history.parents_of, self.history.files]:
                self.assert_error(NoObject, ask, thing, name=thing)
            for ask in self.of_two_names():
                self.assert_error(NoObject, ask, thing, self.good, name=thing)
                self.assert_error(NoObject, ask, self.good, thing, name=thing)
            for ask in self.of_names():
                self.assert_error(NoObject, ask, (thing,), name=thing)
                self.assert_error(NoObject, ask, (self.good, thing, MOST), name=thing)

    def test_names_of_something_else(self):
        for name in (self.blob, self.tag, self.world.tree):
            for ask in [*self.of_one_name(), self.history.parents_of, self.history.files]:
                self.assert_error(BadObject, ask, name, at=0)
            for ask in self.of_two_names():
                self.assert_error(BadObject, ask, name, self.good, at=0)
                self.assert_error(BadObject, ask, self.good, name, at=0)
                self.assert_error(BadObject, ask, name, ONE, at=0)
                self.assert_error(NoObject, ask, ONE, name, name=ONE)
            for ask in self.of_names():
                self.assert_error(BadObject, ask, (self.good, name), at=0)
                self.assert_error(BadObject, ask, (name, ONE), at=0)
                self.assert_error(NoObject, ask, (TWO, name, ONE), name=TWO)

    def test_what_is_no_tuple(self):
        for thing in NO_TUPLES:
            for ask in self.of_names():
                self.assert_error(BadName, ask, thing)

    def test_the_least_absent_id_behind_a_name(self):
        for ask in self.of_one_name():
            self.assert_error(NoObject, ask, self.lost, name=ONE)
            self.assert_error(NoObject, ask, self.lost_too, name=ONE)
            self.assert_error(NoObject, ask, self.world.commit("two", self.lost_too, MOST, self.lower), name=ZERO)
            self.assert_error(NoObject, ask, self.world.commit("above", self.good, self.lost), name=ONE)
        for ask in self.of_names():
            self.assert_error(NoObject, ask, (self.good, self.lost), name=ONE)
            self.assert_error(NoObject, ask, (self.lost, self.lower), name=ZERO)
            self.assert_error(NoObject, ask, (self.lower, self.lost_too), name=ZERO)
        for ask in self.of_two_names():
            self.assert_error(NoObject, ask, self.lost, self.good, name=ONE)
            self.assert_error(NoObject, ask, self.good, self.lost, name=ONE)
            self.assert_error(NoObject, ask, self.lost, self.lower, name=ONE)
            self.assert_error(NoObject, ask, self.lower, self.lost, name=ZERO)
            self.assert_error(NoObject, ask, self.lost_too, self.lower, name=ONE)
            self.assert_error(NoObject, ask, self.good, self.lost_too, name=ONE)

    def test_something_else_behind_a_name(self):
        for ask in self.of_one_name():
            self.assert_error(BadObject, ask, self.wrong, at=0)
            self.assert_error(NoObject, ask, self.both, name=MOST)
            self.assert_error(NoObject, ask, self.both_too, name=MOST)
        for ask in self.of_names():
            self.assert_error(BadObject, ask, (self.good, self.wrong), at=0)
            self.assert_error(NoObject, ask, (self.wrong, self.lost), name=ONE)
            self.assert_error(NoObject, ask, (self.both,), name=MOST)
            self.assert_error(NoObject, ask, (self.both_too,), name=MOST)
        for ask in self.of_two_names():
            self.assert_error(BadObject, ask, self.wrong, self.lost, at=0)
            self.assert_error(NoObject, ask, self.lost, self.wrong, name=ONE)
            self.assert_error(BadObject, ask, self.good, self.wrong, at=0)

    def test_errors_of_the_names_go_ahead_of_what_is_behind_them(self):
        for ask in self.of_two_names():
            self.assert_error(NoObject, ask, self.lost, MOST, name=MOST)
            self.assert_error(BadObject, ask, self.lost, self.blob, at=0)
        for ask in self.of_names():
            self.assert_error(NoObject, ask, (self.lost, MOST), name=MOST)
            self.assert_error(BadObject, ask, (self.lost, self.blob), at=0)

    def test_two_methods_do_not_look_behind(self):
        self.assertEqual(self.history.parents_of(self.lost), (TWO, ONE))
        self.assertEqual(self.history.parents_of(self.wrong), (self.blob, self.good))
        self.assertEqual(self.history.files(self.lost), {})

    def test_a_cut_hides_what_is_behind_it(self):
        cut = History(self.store, cut=(self.lost, self.wrong, MOST))
        self.assertEqual(cut.generation(self.lost), 1)
        self.assertEqual(cut.bases(self.lost, self.wrong), ())
        self.assertEqual(list(cut.first_parents(self.wrong)), [self.wrong])
        self.assert_error(NoObject, cut.generation, MOST, name=MOST)
        self.assert_error(NoObject, cut.generation, self.both, name=MOST)
        above = self.world.commit("above", self.lost)
        self.assertEqual(cut.generation(above), 2)

    def test_generators_raise_when_the_first_value_is_asked_for(self):
        self.assert_generator_error(BadName, self.history.order, [self.good])
        self.assert_generator_error(NoObject, self.history.order, (self.good, ONE), name=ONE)
        self.assert_generator_error(NoObject, self.history.order, (self.good, self.lost), name=ONE)
        self.assert_generator_error(BadObject, self.history.order, (self.wrong,), at=0)
        self.assert_generator_error(NoObject, self.history.first_parents, ONE, name=ONE)
        self.assert_generator_error(BadObject, self.history.first_parents, self.blob, at=0)
        side = self.world.commit("side", self.good, self.lost)
        self.assert_generator_error(NoObject, self.history.first_parents, side, name=ONE)


class AgainstAPlainSearch(Case):
    def same(self, store, names, cut):
        history, plain = History(store, cut=cut), Plain(store, cut)
        asked = tuple([names[at] for at in range(0, len(names), 2)] + names[:3])
        self.assertEqual(list(history.order(asked)), plain.order(asked))
        self.assertEqual(history.independent(asked), plain.independent(asked))
        self.assertEqual(set(history.span(asked).ids()), plain.reached(*asked))
        self.assertEqual(history.span(asked).heads(), plain.independent(plain.reached(*asked)))
        for one in names:
            self.assertEqual(history.generation(one), plain.generation(one))
            line = [one]
            while plain.parents(line[-1]):
                line.append(plain.parents(line[-1])[0])
            self.assertEqual(list(history.first_parents(one)), line)
            for other in names[::3]:
                first, second = plain.reached(one), plain.reached(other)
                self.assertIs(history.reaches(one, other), other in first)
                self.assertEqual(history.bases(one, other), plain.independent(first & second))
                self.assertEqual(history.ahead_behind(one, other), (len(first - second), len(second - first)))

    def test_mixed_histories(self):
        for seed in range(12):
            world = World()
            names = world.tossed(seed, 12)
            self.same(world.store, names, ())
            self.same(world.store, names, (names[7], names[4], names[7], ONE, world.tree))


class GreatHistories(Case):
    def test_a_line_of_200_commits(self):
        world = World()
        names = [world.commit("0", time=200)]
        for number in range(1, 200):
            names.append(world.commit(str(number), names[-1], time=200 - number))
        history = History(world.store)
        self.assertEqual(history.generation(names[-1]), 200)
        self.assertEqual(list(history.first_parents(names[-1])), names[::-1])
        self.assertEqual(list(history.order(tuple(names))), names[::-1])
        self.assertEqual(history.ahead_behind(names[-1], names[0]), (199, 0))
        self.assertEqual(history.bases(names[-1], names[50]), (names[50],))
        self.assertEqual(history.independent(tuple(names)), (names[-1],))
        self.assertEqual(len(history.span((names[-1],))), 200)
        self.assertEqual(history.span((names[-1],)).heads(), (names[-1],))
        self.assertEqual(len(list(world.store.walk((names[-1],)))), 201)
        self.assertEqual(world.store.missing((names[-1],)), ())
        cut = History(world.store, cut=(names[100],))
        self.assertEqual(cut.generation(names[-1]), 100)

    def test_a_ladder(self):
        world = World()
        left, right = world.commit("left"), world.commit("right")
        rungs = [(left, right)]
        for number in range(97):
            left, right = (world.commit(f"l{number}", left, right, time=number),
                           world.commit(f"r{number}", right, left, time=number))
            rungs.append((left, right))
        history = History(world.store)
        self.assertEqual(history.generation(left), 98)
        self.assertIs(history.reaches(left, rungs[0][1]), True)
        self.assertIs(history.reaches(left, right), False)
        self.assertEqual(history.bases(left, right), tuple(sorted(rungs[-2])))
        self.assertEqual(history.ahead_behind(left, right), (1, 1))
        self.assertEqual(history.ahead_behind(left, rungs[0][0]), (194, 0))
        self.assertEqual(history.independent((left, right, *rungs[0])), tuple(sorted([left, right])))
        self.assertEqual(list(history.first_parents(left)), [rung[0] for rung in rungs][::-1])
        names = tuple([name for rung in rungs for name in rung])
        self.assertEqual(list(history.order(names)), [name for rung in rungs[::-1] for name in sorted(rung)])
        span = history.span((left, right))
        self.assertEqual((len(span), span.heads()), (196, tuple(sorted([left, right]))))
        self.assertEqual(len(list(world.store.walk((left,)))), 196)
        self.assertEqual(list(world.store.walk((left, right), without=rungs[-2])), sorted([left, right]))
        self.assertEqual(world.store.missing((left, right)), ())
        self.assertEqual(History(world.store, cut=rungs[50]).generation(left), 48)


if __name__ == "__main__":
    unittest.main()
