"""Collecting [16]: the removal of old objects that nothing reaches, one by one, and of old log entries."""

from forkhaul.errors import BadCommand
from forkhaul.store import parts_within
from forkhaul.words import ascending, is_count, is_time


class Collector:
    """Removes objects of a repository for which anything may come between two steps.

    What is found out of all objects at one step is used by the next ones, unless something else has changed meanwhile.
    Sets of objects are the bits of integers: the lowest bit is that of the least id.
    """

    def __init__(self, repo, *, now, grace):
        if not is_time(now) or not is_count(grace):
            raise BadCommand("no time, or no number of at least 0")
        self._vault = repo.vault
        self._now = now
        self._grace = grace
        self._judged = None
        self._ends = {}
        self._names = ()
        self._numbers = {}
        self._users = []
        self._free = 0

    def step(self):
        """Remove an object and return its id, or return None if none can be removed."""
        vault = self._vault
        if self._judged != vault.version:
            self._judge()
        if self._free == 0:
            return None
        first = self._free & -self._free
        name = self._names[first.bit_length() - 1]
        parts = self._parts_in_question(name)
        vault.erase(name)
        self._free = self._free ^ first
        self._judged = vault.version
        for number in parts:
            self._users[number] -= 1
            if self._users[number] == 0:
                self._free = self._free | (1 << number)
        return name

    def garbage(self):
        """Return what would be removed if nothing came between the steps, ascending."""
        shelf = self._vault.shelf
        young = [name for name in self._vault.ticks if self._now - self._vault.ticks[name] <= self._grace]
        kept = shelf.closure(_roots_of(self._vault) + young, {}, self._vault.cut)
        return ascending([name for name in self._vault.ticks if name not in kept])

    def _judge(self):
        """Find out what can be removed, and how many objects name each of these."""
        self._ends = {name: True for name in self._vault.cut}
        self._names = self.garbage()
        self._numbers = {name: number for number, name in enumerate(self._names)}
        self._users = [0 for _ in self._names]
        for name in self._names:
            for number in self._parts_in_question(name):
                self._users[number] += 1
        self._free = sum([1 << number for number, users in enumerate(self._users) if users == 0])
        self._judged = self._vault.version

    def _parts_in_question(self, name):
        """Return the numbers of those parts of an object that can be removed."""
        parts = parts_within(name, self._vault.shelf[name], self._ends)
        return [self._numbers[part] for part in parts if part in self._numbers]


def collect(repo, *, now, grace):
    """Remove all that can be removed, and return the ids in the order of their removal."""
    collector = Collector(repo, now=now, grace=grace)
    removed = []
    name = collector.step()
    while name is not None:
        removed.append(name)
        name = collector.step()
    return tuple(removed)


def expire(repo, *, now, age):
    """Drop the log entries that are older than `age`, and return how many there were."""
    return repo.lose_entries(now, age)


def _roots_of(vault):
    """Return the list of all ids that references, HEAD, logs and holds name."""
    rows, (word, place), logs = vault.refs_state
    roots = [name for _, name in rows]
    if word == "id":
        roots.append(place)
    for _, entries in logs:
        roots.extend([name for entry in entries for name in entry[:2] if name is not None])
    for hold in vault.holding:
        roots.extend(vault.holding[hold])
    return roots
