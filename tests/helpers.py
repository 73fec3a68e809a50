"""What several test files share: odd arguments, errors with their fields, and small histories."""

import unittest

from forkhaul.changes import Change
from forkhaul.collecting import Collector
from forkhaul.disk import Disk
from forkhaul.errors import BadName
from forkhaul.fetching import Client, Server
from forkhaul.history import History
from forkhaul.objects import Blob, Commit, Tag, Tree
from forkhaul.refs import Refs
from forkhaul.repo import Repo
from forkhaul.revisions import View
from forkhaul.search import Search
from forkhaul.store import Store

ZERO = "0" * 16
ONE = "1" * 16
TWO = "2" * 16
MOST = "f" * 16


def odd_things():
    """Objects of many built-in types and of the classes of the interface, none of them an allowed text."""
    refs = Refs()
    repo = Repo(Disk())
    return [
        None, True, False, 0, 1, -1, 10 ** 30, 1.5, float("nan"), 2j, Ellipsis, NotImplemented,
        "", " ", "\n", "A", "a b", "/", "..", "\u00e9", "\ud800", b"", b"main", ONE.encode(), bytearray(b"a"),
        memoryview(b"a"), (), ((),), (1, 2), [], [ONE], {}, {ONE: 1}, set(), {ONE}, frozenset((ONE,)), range(3),
        iter([]), (n for n in ()), slice(1), object(), int, str, len, odd_things, ValueError("x"), BadName("x"),
        Blob("x"), Tree({}), Commit(ONE, author="ann", time=1), Tag(ONE, label="v1"),
        Store(), refs, refs.edit("ann", 1, ""), History(Store()), History(Store()).span(()), View(Store(), refs),
        Change({}), Change({"a": (None, None)}), Search(History(Store())),
        Disk(), Server(Store(), {}), Client(Store(), {}), repo, repo.edit("ann", 1, ""), Collector(repo, now=1, grace=0),
    ]


def no_names():
    """Objects that are no tuples of ids, and texts that are almost ids."""
    return [thing for thing in odd_things() if thing != ()] + [
        ONE, [ONE], {ONE: 1}, (ONE, None), (ONE, 1), (ONE, [ONE]), ((ONE,),), (ONE, ONE[1:]), (ONE + "0",),
        (ONE, "A" * 16), ("g" * 16,), (ONE + "\n",), (ONE[1:] + "\n",), (b"1" * 16,)]


class Case(unittest.TestCase):
    """A test case that asks for an error by its very class and by its fields."""

    def assert_error(self, kind, call, *arguments, **fields):
        try:
            call(*arguments)
        except Exception as error:
            self.assertIs(type(error), kind, f"{call} {arguments}: {error!r}")
            for field in fields:
                value = getattr(error, field)
                self.assertTrue(value is fields[field] or value == fields[field],
                                f"{arguments}: {field} is {value!r}, not {fields[field]!r}")
        else:
            self.fail(f"no {kind.__name__}: {call} {arguments}")

    def assert_generator_error(self, kind, call, *arguments, **fields):
        """The call alone raises nothing: the first value does."""
        steps = call(*arguments)
        self.assert_error(kind, lambda: next(steps), **fields)


def chance(seed):
    """A row of numbers that is the same in each run."""
    while True:
        seed = (seed * 6364136223846793005 + 1442695040888963407) % 2 ** 64
        yield seed >> 33


class World:
    """A store with the empty tree, in which commits are told apart by their messages."""

    def __init__(self):
        self.store = Store()
        self.tree = self.store.put_files({})

    def commit(self, message, *parents, time=0):
        return self.store.put(Commit(self.tree, parents, author="ann", time=time, message=message))

    def tossed(self, seed, many):
        """Commits with parents and times that are mixed up, parents first."""
        numbers = chance(seed)
        names = []
        for at in range(many):
            picked = {names[next(numbers) % at] for _ in range(next(numbers) % 4) if at}
            names.append(self.commit(f"n{at}", *sorted(picked), time=next(numbers) % 5))
        return names


class Plain:
    """The answers of a history, found in the plainest way."""

    def __init__(self, store, cut=()):
        self.store = store
        self.cut = cut

    def parents(self, name):
        return () if name in self.cut else self.store[name].parents

    def reached(self, *names):
        found = set(names)
        while True:
            more = {parent for name in found for parent in self.parents(name)} | found
            if more == found:
                return found
            found = more

    def independent(self, names):
        return tuple(sorted([name for name in set(names) if not any(
            [other != name and name in self.reached(other) for other in set(names)])]))

    def order(self, names):
        left, out = set(names), []
        while left:
            ready = [name for name in left if not any(
                [other != name and name in self.reached(other) for other in left])]
            out.append(min(ready, key=lambda name: (-self.store[name].time, name)))
            left.remove(out[-1])
        return out

    def generation(self, name):
        return 1 + max([self.generation(parent) for parent in self.parents(name)], default=0)


class Diamond(Case):
    """A root, two sides of it, a merge of these, and a commit that stands alone."""

    def setUp(self):
        world = self.world = World()
        self.root = world.commit("root", time=1)
        self.left = world.commit("left", self.root, time=2)
        self.right = world.commit("right", self.root, time=3)
        self.merge = world.commit("merge", self.left, self.right, time=4)
        self.alone = world.commit("alone", time=9)
        self.history = History(world.store)

    def ascending(self, *names):
        return tuple(sorted(names))
