"""[3], [4.1] Histories at the bounds, with answers that are worked out here; asked again behind a further `put`."""

import unittest

from forkhaul.errors import BadObject, NoObject
from forkhaul.history import History
from forkhaul.objects import Blob, Commit
from forkhaul.store import Store
from tests.helpers import ONE, Case, World


class Known:
    """Commits that are put, parents first, with what they reach noted beside them."""

    def __init__(self):
        self.world = World()
        self.store = self.world.store
        self.parents = {}
        self.times = {}
        self.reached = {}

    def commit(self, *parents, time=0):
        name = self.world.commit(str(len(self.parents)), *parents, time=time)
        self.parents[name] = parents
        self.times[name] = time
        self.reached[name] = {name}.union(*[self.reached[parent] for parent in parents])
        return name

    def names(self):
        return tuple(self.parents)

    def order(self, names):
        """The commits that no other one reaches are ready; the latest one of them comes first."""
        above = {name: [other for other in names if name != other and name in self.reached[other]] for name in names}
        out, done = [], set()
        while len(out) < len(above):
            ready = [name for name in above if name not in done and done.issuperset(above[name])]
            out.append(min(ready, key=lambda name: (-self.times[name], name)))
            done.add(out[-1])
        return out

    def generation(self, name):
        many = {}
        for other in self.parents:
            many[other] = 1 + max([many[parent] for parent in self.parents[other]], default=0)
        return many[name]

    def independent(self, names):
        return tuple(sorted([name for name in set(names) if not any(
            [name != other and name in self.reached[other] for other in names])]))

    def bases(self, one, other):
        return self.independent(self.reached[one] & self.reached[other])

    def ahead_behind(self, one, other):
        first, second = self.reached[one], self.reached[other]
        return (len(first - second), len(second - first))


def line(many, time):
    """A line of commits; `time` tells the time of each by its place."""
    known = Known()
    name = known.commit(time=time(0))
    for at in range(1, many):
        name = known.commit(name, time=time(at))
    return known


def ladder(many):
    """Pairs of merges of both commits of the pair ahead, the one in this order, the other in that."""
    known = Known()
    pair = (known.commit(time=1), known.commit(time=0))
    for at in range(1, many):
        left, right = pair if at % 3 else pair[::-1]
        pair = (known.commit(left, right, time=at % 7), known.commit(right, left, time=at % 5))
    return known


def braid(many):
    """Commits with the six ahead of them as parents, from the seventh on."""
    known = Known()
    for at in range(many):
        known.commit(*known.names()[-6:][::-1 if at % 2 else 1] if at >= 6 else (), time=at * 5 % 11)
    return known


def histories():
    return (
        ("ascending", line(200, lambda at: at)), ("equal", line(200, lambda at: 3)),
        ("descending", line(200, lambda at: 200 - at)), ("ladder", ladder(90)), ("braid", braid(36)),
    )


class GreatHistories(Case):
    def check_all(self, known, history, step):
        """All questions, of each `step`-th commit."""
        names = known.names()
        some = names[::step] + names[-3:]
        for asked in (names, names[::-1], some, names[:40:3], names[-8:]):
            self.assertEqual(list(history.order(asked)), known.order(asked))
            self.assertEqual(history.independent(asked), known.independent(asked))
        for one in some:
            self.assertEqual(history.generation(one), known.generation(one))
            for other in some:
                self.assertIs(history.reaches(one, other), other in known.reached[one])
                self.assertEqual(history.ahead_behind(one, other), known.ahead_behind(one, other))
                self.assertEqual(history.bases(one, other), known.bases(one, other))

    def check_again(self, known, history, step):
        """The same questions behind a further `put`, of a commit that is a child, of a root, and of what is none."""
        known.commit(*known.names()[-1:-3:-1], time=4)
        self.check_all(known, history, step)
        known.commit(time=100)
        known.commit(known.names()[0], known.names()[-1], time=0)
        known.store.put(Blob("none"))
        self.check_all(known, history, step)

    def test_each_history(self):
        for word, known in histories():
            with self.subTest(word):
                history = History(known.store)
                self.check_all(known, history, 23)
                if len(known.names()) < 198:
                    self.check_again(known, history, 29)

    def test_lines_behind_a_further_put(self):
        for time in (lambda at: at, lambda at: 3, lambda at: 200 - at):
            known = line(196, time)
            history = History(known.store)
            self.check_all(known, history, 41)
            self.check_again(known, history, 41)

    def test_each_answer_as_the_first_one(self):
        for _, known in histories():
            names = known.names()
            top, low = names[-1], names[len(names) // 2]
            self.assertEqual(list(History(known.store).order(names)), known.order(names))
            self.assertIs(History(known.store).reaches(top, low), True)
            self.assertIs(History(known.store).reaches(low, top), False)
            self.assertEqual(History(known.store).bases(top, low), (low,))
            self.assertEqual(History(known.store).bases(*names[-2:]), known.bases(*names[-2:]))
            self.assertEqual(History(known.store).ahead_behind(top, low), (len(known.reached[top] - known.reached[low]), 0))
            self.assertEqual(History(known.store).generation(top), known.generation(top))
            self.assertEqual(History(known.store).independent(names), known.independent(names))

    def test_closed_answers(self):
        """What a line and a ladder are known to answer, without any reckoning."""
        for time in (lambda at: at, lambda at: 3, lambda at: 200 - at):
            known = line(200, time)
            names, history = known.names(), History(known.store)
            self.assertEqual(list(history.order(names)), list(names[::-1]))
            self.assertEqual([history.generation(name) for name in names], list(range(1, 201)))
            self.assertEqual([history.ahead_behind(names[-1], name) for name in names], [
                (199 - at, 0) for at in range(200)])
            self.assertEqual({history.bases(names[120], name) for name in names[120:]}, {(names[120],)})
        known = ladder(90)
        names, history = known.names(), History(known.store)
        self.assertEqual(history.generation(names[-1]), 90)
        self.assertEqual(history.bases(*names[-2:]), tuple(sorted(names[-4:-2])))
        self.assertEqual(history.ahead_behind(*names[-2:]), (1, 1))

    def test_cuts(self):
        for _, known in histories():
            names = known.names()
            cut = History(known.store, cut=(names[-5], names[3], ONE))
            self.assertEqual(cut.generation(names[-5]), 1)
            self.assertEqual(list(cut.order(names[-5:-4])), [names[-5]])
            self.assertIs(cut.reaches(names[-5], names[0]), False)


class LaterObjects(Case):
    def test_errors_that_a_further_put_takes_away(self):
        world = World()
        lost = Commit(world.tree, author="ann", time=1, message="lost")
        name = World().store.put(lost)
        below = world.commit("below")
        child = world.commit("child", below, name)
        top = world.commit("top", child)
        history = History(world.store)
        asks = (lambda: list(history.order((below, top))), lambda: history.generation(top), lambda: history.span((top,)),
                lambda: history.reaches(top, below), lambda: history.bases(below, top), lambda: history.independent((top,)),
                lambda: history.ahead_behind(top, below), lambda: list(history.first_parents(child)))
        for _ in range(2):
            for ask in asks:
                self.assert_error(NoObject, ask, name=name)
            self.assertEqual(history.generation(below), 1)
        world.store.put(lost)
        self.assertEqual(history.generation(top), 3)
        self.assertEqual(history.ahead_behind(top, below), (3, 0))
        self.assertEqual(len(history.span((top,))), 4)

    def test_errors_that_stay(self):
        world = World()
        blob = world.store.put(Blob("a"))
        odd = world.commit("odd", blob)
        top = world.commit("top", world.commit("fine"), odd)
        history = History(world.store)
        for _ in range(2):
            self.assert_error(BadObject, history.generation, top, at=0)
            self.assert_error(BadObject, history.reaches, top, odd, at=0)
            world.commit("more", top)

    def test_the_least_absent_id_beside_known_commits(self):
        world = World()
        known = world.commit("known")
        history = History(world.store)
        self.assertEqual(history.generation(known), 1)
        for parents in ((known, "9" * 16, "8" * 16), ("8" * 16, known, "9" * 16)):
            self.assert_error(NoObject, history.generation, world.commit("lost", *parents), name="8" * 16)


class CountedStore(Store):
    """A store that counts how often it is looked at."""

    looks = 0

    def __getitem__(self, name):
        self.looks += 1
        return super().__getitem__(name)


class Work(Case):
    def test_the_store_is_looked_at_so_many_times_as_there_are_commits(self):
        for many in (50, 100, 200):
            store = CountedStore()
            tree = store.put_files({})
            names, parents = [], ()
            for at in range(many):
                names.append(store.put(Commit(tree, parents, author="ann", time=at)))
                parents = (names[-1],)
            history = History(store)
            list(history.order(tuple(names)))
            self.assertTrue(store.looks <= 12 * many)
            before = store.looks
            for name in names:
                history.reaches(names[-1], name)
                history.bases(names[many // 2], name)
                history.ahead_behind(name, names[0])
                history.generation(name)
            history.independent(tuple(names))
            list(history.order(tuple(names)))
            self.assertEqual(store.looks, before)


if __name__ == "__main__":
    unittest.main()
