"""The commits of a history by numbers: sets of them are the bits of integers, so that many are joined at once."""

from forkhaul.errors import BadObject, NoObject
from forkhaul.objects import Commit
from forkhaul.words import LATEST, ascending


class Graph:
    """What was learnt of a store's commits: it stays true, since objects are values and none leaves a store.

    A commit is learnt with all that it reaches, and its number is greater than those of all that it reaches.
    """

    def __init__(self, store, cut):
        self._store = store
        self._ends = {name: True for name in cut}
        self._numbers = {}
        self._names = []
        self._parents = []
        self._below = []
        self._heights = []
        self._ranks = []

    def knows(self, name):
        """Return whether any object is the id of a commit that was learnt."""
        return isinstance(name, str) and name in self._numbers

    def learn(self, names):
        """Learn these ids, unless they reach what is absent, or what is no commit."""
        fresh = self._unknown_below(names)
        absent = [name for name in fresh if name not in self._store]
        if absent:
            raise NoObject(ascending(absent)[0])
        if not all([isinstance(self._store[name], Commit) for name in fresh]):
            raise BadObject(0)
        for name in fresh:
            self._add(name)

    def number(self, name):
        """Return the number of a commit."""
        return self._numbers[name]

    def name_at(self, number):
        """Return the id of the commit with a number."""
        return self._names[number]

    def names_in(self, bits):
        """Return the list of the ids in a set."""
        return [self._names[number] for number in numbers_in(bits)]

    def parents_at(self, number):
        """Return the list of the numbers of a commit's parents."""
        return list(self._parents[number])

    def below(self, number):
        """Return the set of all that a commit reaches."""
        return self._below[number]

    def height(self, number):
        """Return the generation of a commit."""
        return self._heights[number]

    def rank(self, number):
        """Return a text: the latest commit has the least one, of several the one with the least id."""
        return self._ranks[number]

    def reached(self, numbers):
        """Return the set of all that these commits reach."""
        bits = 0
        for number in numbers:
            bits = bits | self._below[number]
        return bits

    def tops(self, bits):
        """Return the ids of a set's commits that no other one of it reaches, ascending."""
        names = []
        while bits:
            # None of the set reaches the one with the greatest number.
            number = bits.bit_length() - 1
            names.append(self._names[number])
            bits = bits & ~self._below[number]
        return ascending(names)

    def ordered(self, numbers):
        """Return the list of these commits' ids, none before one that reaches it, the latest first."""
        ranked = self._ranked(numbers)
        ranks = {number: rank for rank, number in enumerate(ranked)}
        children = self._children_of(numbers)
        free = [number for number in children if children[number] == 0]
        ready = 0
        names = []
        while free or ready:
            if free:
                number = free.pop()
                if number in ranks:
                    ready = ready | (1 << ranks[number])
                    continue
            else:
                first = ready & -ready
                ready = ready ^ first
                number = ranked[first.bit_length() - 1]
                names.append(self._names[number])
            for parent in self._parents[number]:
                children[parent] -= 1
                if children[parent] == 0:
                    free.append(parent)
        return names

    def _ranked(self, numbers):
        """Return the list of these numbers, each once, the latest commit first."""
        by_rank = {self._ranks[number]: number for number in numbers}
        return [by_rank[rank] for rank in ascending(by_rank)]

    def _children_of(self, numbers):
        """Return a dict from all that these commits reach to how many children each has among it."""
        children = {number: 0 for number in numbers_in(self.reached(numbers))}
        for number in list(children):
            for parent in self._parents[number]:
                children[parent] += 1
        return children

    def _unknown_below(self, names):
        """Return the list of all ids, present or not, that are to be learnt, parents ahead of their children."""
        is_open = {}
        closed = []
        todo = list(names)
        while todo:
            name = todo[-1]
            if name not in is_open and name not in self._numbers:
                is_open[name] = True
                todo.extend([parent for parent in self._parents_of(name) if parent not in is_open])
                continue
            todo.pop()
            if is_open.get(name, False):
                is_open[name] = False
                closed.append(name)
        return closed

    def _parents_of(self, name):
        """Return the parents of what may be absent, or no commit."""
        if name in self._ends or name not in self._store or not isinstance(self._store[name], Commit):
            return ()
        return self._store[name].parents

    def _add(self, name):
        parents = [self._numbers[parent] for parent in self._parents_of(name)]
        number = len(self._names)
        self._numbers[name] = number
        self._names.append(name)
        self._parents.append(parents)
        self._below.append(self.reached(parents) | (1 << number))
        self._heights.append(1 + max([int(self._heights[parent]) for parent in parents], default=0))
        self._ranks.append(f"{LATEST - self._store[name].time:013d}{name}")


def numbers_in(bits):
    """Return the list of the numbers in a set, ascending."""
    digits = f"{bits:b}"
    return [number for number, digit in enumerate(digits[::-1]) if digit == "1"]


def count_of(bits):
    """Return how many numbers are in a set."""
    return f"{bits:b}".count("1")
