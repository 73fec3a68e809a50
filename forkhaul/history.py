"""Histories [4.1] and spans [4.2]: questions about the commits of a store."""

from forkhaul.errors import BadName, BadObject, NoObject
from forkhaul.objects import Commit
from forkhaul.words import LATEST, are_ids, ascending


def commit_of(store, name):
    """Return the commit with this id."""
    thing = store[name]
    if not isinstance(thing, Commit):
        raise BadObject(0)
    return thing


class History:
    """The commits of a store, with an end at each commit of the cut."""

    def __init__(self, store, *, cut=()):
        if not are_ids(cut):
            raise BadName("a cut is a tuple of ids")
        self._store = store
        self._cut = cut

    def parents_of(self, name):
        """Return the parents of a commit in this history."""
        commit = commit_of(self._store, name)
        return () if name in self._cut else commit.parents

    def files(self, name):
        """Return the files of a commit."""
        return self._store.files_of(commit_of(self._store, name).tree)

    def reaches(self, one, other):
        """Return whether the first commit reaches the second one."""
        return other in self._both_reached(one, other)[0]

    def generation(self, name):
        """Return the number of commits on the longest way from a commit without parents to this one."""
        self._reached_by((name,))
        known = {}
        todo = [name]
        while todo:
            parents = self.parents_of(todo[-1])
            unknown = [parent for parent in parents if parent not in known]
            if unknown:
                todo.extend(unknown)
            else:
                done = todo.pop()
                known[done] = 1 + max([int(known[parent]) for parent in parents], default=0)
        return known[name]

    def order(self, names):
        """Yield these commits, none before one that reaches it, the latest first."""
        self._reached_by(names)
        reached = {name: self._reached_from((name,)) for name in names}
        above = {name: len([rival for rival in reached if name in reached[rival]]) - 1 for name in reached}
        while above:
            first = self._first([ready for ready in above if above[ready] == 0])
            yield first
            del above[first]
            for other in list(above):
                if other in reached[first]:
                    above[other] -= 1

    def first_parents(self, name):
        """Yield the commit, its first parent, the first parent of this one, and so on."""
        self._reached_by((name,))
        line = (name,)
        while line:
            yield line[0]
            line = self.parents_of(line[0])

    def independent(self, names):
        """Return those of these commits that no other one of them reaches."""
        self._reached_by(names)
        below = self._reached_from([parent for name in names for parent in self.parents_of(name)])
        return ascending({name: True for name in names if name not in below})

    def bases(self, one, other):
        """Return those of the commits that both reach that no other one of them reaches."""
        first, second = self._both_reached(one, other)
        return self.independent(tuple([name for name in first if name in second]))

    def ahead_behind(self, one, other):
        """Return how many commits only the first one reaches, and how many only the second one."""
        first, second = self._both_reached(one, other)
        ahead = [name for name in first if name not in second]
        behind = [name for name in second if name not in first]
        return (len(ahead), len(behind))

    def span(self, names):
        """Return the set of all commits that these reach."""
        return Span(self, self._reached_by(names))

    def _reached_by(self, names):
        """Return what an argument, a tuple of commits, reaches, or raise the errors that it has."""
        if not isinstance(names, tuple):
            raise BadName("names are a tuple")
        for name in names:
            commit_of(self._store, name)
        return self._whole(names)

    def _both_reached(self, one, other):
        """Return what each of two commits reaches; that both are commits is seen to before what is behind them."""
        commit_of(self._store, one)
        commit_of(self._store, other)
        return self._whole((one,)), self._whole((other,))

    def _whole(self, names):
        """Return what these commits reach, if all of it is there."""
        reached = self._reached_from(names)
        absent = [name for name in reached if name not in self._store]
        if absent:
            raise NoObject(ascending(absent)[0])
        for name in reached:
            commit_of(self._store, name)
        return reached

    def _reached_from(self, names):
        """Return a dict of all ids that these reach, present or not."""
        reached = {}
        todo = list(names)
        while todo:
            name = todo.pop()
            if name not in reached:
                reached[name] = True
                todo.extend(self._known_parents(name))
        return reached

    def _known_parents(self, name):
        """Return the parents of what may be absent, or no commit."""
        if name not in self._store or not isinstance(self._store[name], Commit):
            return ()
        return self.parents_of(name)

    def _first(self, ready):
        """Return the latest one of these commits, or of several the one with the least id."""
        ranked = {f"{LATEST - self._store[name].time:013d}{name}": name for name in ready}
        return ranked[ascending(ranked)[0]]


class Span:
    """A set of commits of a history that contains all that each of them reaches."""

    def __init__(self, history, names):
        self._history = history
        self._members = {name: True for name in names}

    def __len__(self):
        return len(self._members)

    def __contains__(self, name):
        return isinstance(name, str) and name in self._members

    def __eq__(self, other):
        return isinstance(other, Span) and self._members == other._members

    def __or__(self, other):
        self._check_beside(other)
        return Span(self._history, list(self._members) + list(other._members))

    def __and__(self, other):
        self._check_beside(other)
        return Span(self._history, [name for name in self._members if name in other._members])

    def __sub__(self, other):
        self._check_beside(other)
        return ascending([name for name in self._members if name not in other._members])

    def __le__(self, other):
        self._check_beside(other)
        return all([name in other._members for name in self._members])

    def ids(self):
        """Return the commits, ascending."""
        return ascending(self._members)

    def heads(self):
        """Return the commits that no other one of the set reaches, ascending."""
        below = {parent: True for name in self._members for parent in self._history.parents_of(name)}
        return ascending([name for name in self._members if name not in below])

    def _check_beside(self, other):
        # A history has no equality of its own: it equals itself alone.
        if not isinstance(other, Span) or other._history != self._history:
            raise BadName("a span is combined with spans of the same history")
