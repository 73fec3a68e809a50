"""Histories [4.1] and spans [4.2]: questions about the commits of a store."""

from forkhaul.errors import BadName, BadObject
from forkhaul.graph import Graph, count_of
from forkhaul.objects import Commit, Tag
from forkhaul.words import are_ids, ascending


def commit_of(store, name):
    """Return the commit with this id."""
    thing = store[name]
    if not isinstance(thing, Commit):
        raise BadObject(0)
    return thing


def behind_tags(store, name):
    """Return the id to which a row of tags leads; it may be absent."""
    while name in store and isinstance(store[name], Tag):
        name = store[name].target
    return name


class History:
    """The commits of a store, with an end at each commit of the cut.

    Its `graph` is for the files of the package that ask for sets of commits.
    """

    def __init__(self, store, *, cut=()):
        if not are_ids(cut):
            raise BadName("a cut is a tuple of ids")
        self._store = store
        self._ends = {name: True for name in cut}
        self.graph = Graph(store, cut)

    def parents_of(self, name):
        """Return the parents of a commit in this history."""
        commit = commit_of(self._store, name)
        return () if name in self._ends else commit.parents

    def tree_of(self, name):
        """Return the id of a commit's tree."""
        return commit_of(self._store, name).tree

    def files(self, name):
        """Return the files of a commit."""
        return self._store.files_of(self.tree_of(name))

    def reaches(self, one, other):
        """Return whether the first commit reaches the second one."""
        above, below = self._numbers_of_both(one, other)
        return (self.graph.below(above) >> below) & 1 == 1

    def generation(self, name):
        """Return the number of commits on the longest way from a commit without parents to this one."""
        return self.graph.height(self.numbers_of((name,))[0])

    def order(self, names):
        """Yield these commits, none before one that reaches it, the latest first."""
        for name in self.graph.ordered(self.numbers_of(names)):
            yield name

    def first_parents(self, name):
        """Yield the commit, its first parent, the first parent of this one, and so on."""
        line = self.numbers_of((name,))
        while line:
            yield self.graph.name_at(line[0])
            line = self.graph.parents_at(line[0])

    def independent(self, names):
        """Return those of these commits that no other one of them reaches."""
        bits = 0
        for number in self.numbers_of(names):
            bits = bits | (1 << number)
        return self.graph.tops(bits)

    def bases(self, one, other):
        """Return those of the commits that both reach that no other one of them reaches."""
        first, second = self._numbers_of_both(one, other)
        return self.graph.tops(self.graph.below(first) & self.graph.below(second))

    def ahead_behind(self, one, other):
        """Return how many commits only the first one reaches, and how many only the second one."""
        first, second = self._numbers_of_both(one, other)
        ones, others = self.graph.below(first), self.graph.below(second)
        return (count_of(ones & ~others), count_of(others & ~ones))

    def span(self, names):
        """Return the set of all commits that these reach."""
        return Span(self, self.graph.names_in(self.graph.reached(self.numbers_of(names))))

    def numbers_of(self, names):
        """Return the list of the numbers that the graph has for an argument, or raise the errors of it."""
        if not isinstance(names, tuple):
            raise BadName("names are a tuple")
        if not all([self.graph.knows(name) for name in names]):
            for name in names:
                commit_of(self._store, name)
            self.graph.learn(names)
        return [self.graph.number(name) for name in names]

    def _numbers_of_both(self, one, other):
        """Return the numbers of two commits; that both are commits is seen to before what is behind them."""
        if not self.graph.knows(one) or not self.graph.knows(other):
            commit_of(self._store, one)
            commit_of(self._store, other)
            self.graph.learn((one,))
            self.graph.learn((other,))
        return self.graph.number(one), self.graph.number(other)


class Span:
    """A set of commits of a history that contains all that each of them reaches."""

    def __init__(self, history, names):
        self._history = history
        self._members = {name: True for name in names}

    def __len__(self):
        return len(self._members)

    def __contains__(self, name):
        return isinstance(name, str) and name in self._members

    def __eq__(self, other):
        return isinstance(other, Span) and self._members == other._members

    def __or__(self, other):
        self._check_beside(other)
        return Span(self._history, list(self._members) + list(other._members))

    def __and__(self, other):
        self._check_beside(other)
        return Span(self._history, [name for name in self._members if name in other._members])

    def __sub__(self, other):
        self._check_beside(other)
        return ascending([name for name in self._members if name not in other._members])

    def __le__(self, other):
        self._check_beside(other)
        return all([name in other._members for name in self._members])

    def ids(self):
        """Return the commits, ascending."""
        return ascending(self._members)

    def heads(self):
        """Return the commits that no other one of the set reaches, ascending."""
        below = {parent: True for name in self._members for parent in self._history.parents_of(name)}
        return ascending([name for name in self._members if name not in below])

    def _check_beside(self, other):
        # A history has no equality of its own: it equals itself alone.
        if not isinstance(other, Span) or other._history != self._history:
            raise BadName("a span is combined with spans of the same history")
