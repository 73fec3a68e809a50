"""What several files that test fetches share: the letters of a fetch, worked out in the plainest way."""

from forkhaul.objects import Commit, Tag, Tree
from forkhaul.packs import pack


def parts(store, name, cut=()):
    """The parts of a present object that count with a cut."""
    thing = store[name]
    if isinstance(thing, Tree):
        return [worth[1] for worth in thing.entries.values()]
    if isinstance(thing, Commit):
        return [thing.tree, *(() if name in cut else thing.parents)]
    return [thing.target] if isinstance(thing, Tag) else []


def reach(store, starts, cut=()):
    """All ids that the starts reach."""
    found, todo = set(), list(starts)
    while todo:
        name = todo.pop()
        if name not in found:
            found.add(name)
            todo.extend(parts(store, name, cut) if name in store else [])
    return found


def commits_in(store, names):
    return {name for name in names if name in store and isinstance(store[name], Commit)}


def parents(store, name, cut):
    return () if name in cut else store[name].parents


def generations(store, names, cut):
    """The generation of each of these commits and of all that they reach."""
    known = {}

    def of(name):
        if name not in known:
            known[name] = 1 + max([of(parent) for parent in parents(store, name, cut)], default=0)
        return known[name]

    for name in sorted(names):
        of(name)
    return known


def starts_of(store, table):
    """The commits that a table names, directly or by tags."""
    names = set()
    for name in table.values():
        while isinstance(store[name], Tag):
            name = store[name].target
        if isinstance(store[name], Commit):
            names.add(name)
    return names


class Side:
    """A store, a table and a cut."""

    def __init__(self, store, table, cut=()):
        self.store = store
        self.table = table
        self.cut = cut

    def has(self):
        return {name for name in reach(self.store, self.table.values(), self.cut) if name in self.store}

    def commits(self):
        return commits_in(self.store, self.has())

    def rows(self):
        return tuple(sorted([(ref, name) for ref, name in self.table.items() if not ref.startswith("far/")]))


def haves(server, client, single):
    """The pairs of "have" and "common" letters, with the queue as the document describes it."""
    rank = generations(client.store, starts_of(client.store, client.table), client.cut)
    queue = starts_of(client.store, client.table)
    joined, common, letters, many = set(queue), set(), [], 1
    there = server.has()
    while queue:
        asked = []
        while queue and len(asked) < many:
            name = min(queue, key=lambda name: (-rank[name], -client.store[name].time, name))
            queue.remove(name)
            asked.append(name)
            for parent in parents(client.store, name, client.cut):
                if parent not in joined and parent not in common:
                    joined.add(parent)
                    queue.add(parent)
        named = tuple([name for name in asked if name in there])
        common |= commits_in(client.store, reach(client.store, named, client.cut))
        queue -= common
        letters += [("have", tuple(asked)), ("common", named)]
        many = 1 if single else min(2 * many, 16)
    return letters


def kept_and_ends(store, heads, depth, cut):
    """What a copy of this depth keeps, row by row."""
    row = starts_of(store, dict(enumerate(heads)))
    kept = set(row)
    for _ in range(depth - 1):
        row = {parent for name in row for parent in parents(store, name, cut)} - kept
        kept |= row
    ends = {name for name in kept if store[name].parents and (name in cut or not kept.issuperset(store[name].parents))}
    return kept, tuple(sorted(ends))


def letters_of(server, client, single=False, depth=None):
    """All letters of a fetch."""
    letters = [("heads", server.rows())]
    wants = {name for _, name in server.rows()} - (client.has() if depth is None else set())
    if not wants:
        return letters
    wants = tuple(sorted(wants))
    letters += [("want", wants, tuple(sorted(set(client.cut))), depth), ("ready",)]
    asked = haves(server, client, single)
    letters += asked + [("done",)]
    common = [name for word, names in asked if word == "common" for name in names]
    both = set(server.cut) | set(client.cut)
    if depth is None:
        sent = reach(server.store, wants, both) - reach(server.store, common, both)
        cut = tuple(sorted(commits_in(server.store, sent) & set(server.cut)))
    else:
        _, cut = kept_and_ends(server.store, wants, depth, server.cut)
        sent = reach(server.store, wants, cut) - reach(server.store, common, both)
    return letters + [("pack", pack(server.store, sorted(sent)), cut)]


def new_cut(client, letters, things, depth):
    """The client's cut behind a fetch: the ids of the commits that were sent are those of the things."""
    if letters[-1][0] != "pack":
        return tuple(sorted(set(client.cut)))
    cut = set(client.cut) | set(letters[-1][2])
    if depth is not None:
        there = {**{name: client.store[name] for name in client.commits()}, **things}
        commits = {name for name in there if isinstance(there[name], Commit)}
        cut -= {name for name in commits if commits.issuperset(there[name].parents)}
    return tuple(sorted(cut))
