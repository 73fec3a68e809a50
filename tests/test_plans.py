"""[10.3] Best plans, [10.4] bounds."""

import itertools
import unittest

from forkhaul.errors import BadMark, BadObject, NoObject
from forkhaul.history import History
from forkhaul.objects import Blob, Commit
from forkhaul.plans import best, bounds, depth_of, shows_best
from tests.helpers import ONE, Case, Plain, World, chance, odd_things


def least_depth(plain, names, known=None):
    """The least depth over all plans, by trying each test of each set."""
    known = {} if known is None else known
    names = frozenset(names)
    if names not in known:
        depths = []
        for name in names:
            bad = names & plain.reached(name)
            if bad != names:
                depths.append(1 + max(least_depth(plain, bad, known), least_depth(plain, names - bad, known)))
        known[names] = min(depths, default=0)
    return known[names]


def depth_by_hand(plain, names, plan):
    """The depth of a plan, with each of its tests looked at."""
    names = set(names)
    if len(names) == 1:
        assert plan == min(names)
        return 0
    name, bad_plan, good_plan = plan
    bad = names & plain.reached(name)
    assert name in names and bad != names
    return 1 + max(depth_by_hand(plain, bad, bad_plan), depth_by_hand(plain, names - bad, good_plan))


def hold(plain, names, table):
    """Whether bounds hold, by their words."""
    for key, number in table.items():
        assert len(key) > 1 and list(key) == sorted(set(key)) and set(key) <= set(names) and number >= 1
        for name in key:
            bad = set(key) & plain.reached(name)
            if number > 1 and bad != set(key):
                sides = [tuple(sorted(side)) for side in (bad, set(key) - bad)]
                if max([table.get(side, 0) for side in sides]) < number - 1:
                    return False
    return True


class Plans(Case):
    def setUp(self):
        self.world = World()

    def line(self, many):
        names = [self.world.commit("0")]
        while len(names) < many:
            names.append(self.world.commit(str(len(names)), names[-1]))
        return tuple(names)

    def roots_below(self, many):
        """Roots, and one commit above all of them; a commit has six parents at most."""
        roots = [self.world.commit(f"r{at}") for at in range(many - 1)]
        sides = [self.world.commit("side", *roots[:6]), self.world.commit("side", *roots[6:])]
        return (*roots, self.world.commit("top", *(sides if many > 7 else roots)))

    def tools(self, cut=()):
        return History(self.world.store, cut=cut), Plain(self.world.store, cut)

    def check(self, names, wanted=None, cut=()):
        history, plain = self.tools(cut)
        least = least_depth(plain, names)
        if wanted is not None:
            self.assertEqual(least, wanted)
        depth, plan = best(history, names)
        self.assertEqual(depth, least)
        self.assertEqual(depth_by_hand(plain, names, plan), least)
        self.assertEqual(depth_of(history, names, plan), least)
        table = bounds(history, names)
        self.assertTrue(hold(plain, names, table))
        self.assertEqual(table.get(tuple(sorted(names)), 0), least)
        self.assertEqual(list(table), sorted(table))
        for asked in range(-1, least + 1):
            self.assertIs(shows_best(history, names, asked, table), True)
        self.assertIs(shows_best(history, names, least + 1, table), False)
        return plan, table


class Best(Plans):
    def test_lines(self):
        for many, wanted in ((1, 0), (2, 1), (3, 2), (4, 2), (5, 3), (8, 3), (9, 4), (12, 4)):
            self.check(self.line(many)[::-1], wanted)

    def test_roots_below_one_commit(self):
        for many in (2, 3, 4, 7):
            self.check(self.roots_below(many), many - 1)

    def test_roots_alone(self):
        names = tuple([self.world.commit(f"n{at}") for at in range(6)])
        for many in range(1, 7):
            self.check(names[:many], many - 1)

    def test_twelve_commits(self):
        self.check(self.roots_below(12), 11)
        names = tuple([self.world.commit(f"n{at}") for at in range(12)])
        self.check(names, 11)

    def test_mixed_histories(self):
        for seed in range(30):
            self.world = World()
            names = self.world.tossed(seed, 10)
            asked = tuple([name for at, name in enumerate(names) if (seed * 7 + at) % 5])
            self.check(asked)
            self.check(asked, cut=(names[5], ONE))

    def test_commits_between_the_names_count(self):
        names = self.line(9)
        self.check(names[::4], 2)
        self.check((names[8], names[0]), 1)

    def test_arguments_by_name(self):
        history = self.tools()[0]
        names = self.line(2)
        self.assertEqual(best(history=history, names=names), (1, (names[0], names[0], names[1])))
        self.assertEqual(best(history, names[:1]), (0, names[0]))
        self.assertEqual(bounds(history=history, names=names), {tuple(sorted(names)): 1})
        self.assertEqual(bounds(history, names[:1]), {})
        self.assertEqual(depth_of(history=history, names=names, plan=(names[0], names[0], names[1])), 1)
        self.assertIs(shows_best(history=history, names=names, depth=1, bounds={tuple(sorted(names)): 1}), True)


class Names(Plans):
    def asks(self, history):
        return [lambda names: best(history, names), lambda names: depth_of(history, names, None),
                lambda names: bounds(history, names), lambda names: shows_best(history, names, None, None)]

    def test_wrong_names(self):
        names = self.line(13)
        history = self.tools()[0]
        blob = self.world.store.put(Blob("a"))
        lost = self.world.commit("lost", ONE, "0" * 16)
        odd = self.world.commit("odd", blob)
        for ask in self.asks(history):
            for wrong in [thing for thing in odd_things() if not isinstance(thing, tuple)]:
                self.assert_error(BadMark, ask, wrong)
            for wrong in ((), names, (names[0], names[0]), (ONE, ONE), (ONE, names[0], ONE), ([], []), ({}, ONE, {}),
                          tuple(range(13)), list(names[:2]), names[0]):
                self.assert_error(BadMark, ask, wrong)
            for thing in [*odd_things(), ONE]:
                self.assert_error(NoObject, ask, (thing,), name=thing)
                self.assert_error(NoObject, ask, (names[0], thing, blob), name=thing)
            for name in (blob, self.world.tree, odd):
                self.assert_error(BadObject, ask, (names[0], name), at=0)
            self.assert_error(BadObject, ask, (blob, ONE), at=0)
            self.assert_error(NoObject, ask, (names[0], lost), name="0" * 16)
            self.assert_error(BadMark, ask, (blob, blob))

    def test_twelve_are_allowed(self):
        names = self.line(12)
        history = self.tools()[0]
        depth, plan = best(history, names)
        self.assertEqual((depth, depth_of(history, names, plan)), (4, 4))
        self.assertTrue(shows_best(history, names, 4, bounds(history, names)))


class DepthOf(Plans):
    def setUp(self):
        super().setUp()
        self.names = self.line(4)
        self.history = self.tools()[0]

    def assert_no_plan(self, plan, names=None):
        self.assert_error(BadMark, depth_of, self.history, names or self.names, plan)

    def test_right_plans(self):
        a, b, c, d = self.names
        self.assertEqual(depth_of(self.history, self.names, (b, (a, a, b), (c, c, d))), 2)
        self.assertEqual(depth_of(self.history, self.names, (a, a, (b, b, (c, c, d)))), 3)
        self.assertEqual(depth_of(self.history, self.names, (c, (b, (a, a, b), c), d)), 3)
        self.assertEqual(depth_of(self.history, (b,), b), 0)
        self.assertEqual(depth_of(self.history, (d, b), (b, b, d)), 1)

    def test_plans_with_one_thing_wrong(self):
        a, b, c, d = self.names
        for plan in ((b, (c, c, d), (a, a, b)), (d, (b, (a, a, b), (c, c, d)), d), (b, (a, a, b), (c, d, c)),
                     (b, (a, b, a), (c, c, d)), (b, (b, a, b), (c, c, d)), (b, (a, a, b), (a, c, d)), (b, (a, a, b), c),
                     (b, a, (c, c, d)), (b, (a, a, b), d), (b, (a, a, b), (c, c, d), d), (b, (a, a, b)), (b,), (), b,
                     [b, (a, a, b), (c, c, d)], (b, [a, a, b], (c, c, d)), (b, (a, a, b), [c, c, d]),
                     (b, (a, (a,), b), (c, c, d)), (b, (a, a, b), (c, c, (d,))), (b, (a, a, b), (c, c, ONE)),
                     (ONE, (a, a, b), (c, c, d)), (b, (a, a, b), (c, (c, c, c), d)), ([b], (a, a, b), (c, c, d))):
            self.assert_no_plan(plan)

    def test_any_object(self):
        a, b, c, d = self.names
        for thing in odd_things():
            self.assert_no_plan(thing)
            self.assert_no_plan(thing, (a,))
            self.assert_no_plan((thing, (a, a, b), (c, c, d)))
            self.assert_no_plan((b, thing, (c, c, d)))
            self.assert_no_plan((b, (a, a, b), (c, c, thing)))
        deep = None
        for _ in range(5000):
            deep = (b, deep, deep)
        self.assert_error(BadMark, lambda: depth_of(self.history, self.names, deep))

    def test_a_plan_for_one_commit(self):
        a, b = self.names[:2]
        for plan in (b, (a,), (a, a, a), (a, a, b), [a], a.encode()):
            self.assert_no_plan(plan, (a,))

    def test_a_plan_for_another_set(self):
        depth, plan = best(self.history, self.names)
        for names in itertools.combinations(self.names, 3):
            self.assert_no_plan(plan, names)
        other = World()
        self.assertEqual(depth_of(self.history, self.names[::-1], plan), depth)
        self.assert_no_plan(plan, (*self.names, self.world.commit("x")))
        self.assert_error(NoObject, depth_of, History(other.store), self.names, plan, name=self.names[0])


class ShowsBest(Plans):
    def setUp(self):
        super().setUp()
        self.names = tuple(sorted(self.roots_below(4)))
        self.history, self.plain = self.tools()
        self.table = bounds(self.history, self.names)

    def shows(self, depth, table, names=None):
        return shows_best(self.history, names or self.names, depth, table)

    def test_the_least_depth(self):
        self.assertEqual([self.shows(depth, self.table) for depth in (-1, 0, 1, 2, 3, 4)], [True] * 5 + [False])
        self.assertEqual(self.table[self.names], 3)

    def test_depths_that_are_no_whole_numbers(self):
        for depth in odd_things():
            if not isinstance(depth, int) or isinstance(depth, bool):
                self.assertIs(self.shows(depth, self.table), False)
        self.assertIs(self.shows(10 ** 30, self.table), False)
        self.assertIs(self.shows(3.0, self.table), False)

    def test_any_object(self):
        for thing in odd_things():
            for depth in (0, 1, 3):
                self.assertIs(self.shows(depth, thing), thing == {} and depth == 0)
        self.assertIs(self.shows(1, list(self.table.items())), False)

    def test_the_order_of_keys_means_nothing(self):
        turned = {key: self.table[key] for key in reversed(self.table)}
        self.assertIs(self.shows(3, turned), True)

    def test_depth_0(self):
        self.assertIs(self.shows(0, {}), True)
        self.assertIs(self.shows(0, {self.names[:2]: 1}), True)
        self.assertIs(self.shows(0, {self.names[:2]: 2}), False)
        self.assertIs(self.shows(1, {self.names[:2]: 1}), False)
        self.assertIs(self.shows(0, {}, self.names[:1]), True)
        self.assertIs(self.shows(1, {}, self.names[:1]), False)

    def test_keys_that_are_no_sets(self):
        one, two, three, four = self.names
        for key in ((two, one), (one, one), (one,), (), (one, ONE), one, one + two, (one, None), (one, (two,)), None, 1,
                    (one, two, two), (three, two, one), frozenset((one, two)), (1, 2), (one, 2), b"", (one.encode(), two)):
            self.assertIs(self.shows(0, {key: 1}), False)
            self.assertIs(self.shows(3, {**self.table, key: 1}), False)
        self.assertIs(self.shows(3, self.table, self.names[:3]), False)

    def test_numbers_that_are_none(self):
        key = self.names[:2]
        for number in odd_things():
            if isinstance(number, bool) or not isinstance(number, int) or number < 1:
                self.assertIs(self.shows(0, {key: number}), False)
                self.assertIs(self.shows(3, {**self.table, key: number}), False)
        self.assertIs(self.shows(0, {key: 0}), False)
        self.assertIs(self.shows(0, {key: 1.0}), False)

    def test_tables_with_one_thing_wrong(self):
        self.assertTrue(hold(self.plain, self.names, self.table))
        for key in self.table:
            less = {other: self.table[other] for other in self.table if other != key}
            self.assertIs(self.shows(0, less), hold(self.plain, self.names, less))
            for number in range(1, 6):
                other = {**self.table, key: number}
                wanted = hold(self.plain, self.names, other)
                self.assertIs(self.shows(0, other), wanted, (key, number))
                self.assertIs(self.shows(3, other), wanted and other[self.names] >= 3)

    def test_chance_tables(self):
        numbers = chance(4)
        keys = [key for many in (2, 3, 4) for key in itertools.combinations(self.names, many)]
        right = 0
        for _ in range(3000):
            table = {key: (1, 1, 1, 1, 1, 2, 2, 3)[next(numbers) % 8] for key in keys if next(numbers) % 8}
            wanted = hold(self.plain, self.names, table)
            right += wanted
            for depth in range(4):
                self.assertIs(self.shows(depth, table), wanted and table.get(self.names, 0) >= depth)
        self.assertTrue(right > 20)

    def test_bounds_belong_to_the_caller(self):
        self.table.clear()
        self.assertEqual(bounds(self.history, self.names)[self.names], 3)

    def test_a_commit_that_reaches_all_is_no_test(self):
        low, high = self.world.commit("low"), None
        high = self.world.store.put(Commit(self.world.tree, (low,), author="ann", time=1))
        names = tuple(sorted([low, high]))
        self.assertIs(self.shows(1, {names: 1}, names), True)
        self.assertIs(self.shows(1, {names: 2}, names), False)


if __name__ == "__main__":
    unittest.main()
