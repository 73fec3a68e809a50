"""The store [3.1], walks over what objects reach [3.2], and files as trees [3.3]."""

from forkhaul.codes import id_of
from forkhaul.errors import BadName, BadObject, Clash, NoObject
from forkhaul.objects import Commit, Tag, Tree
from forkhaul.trees import check_files, directories_of, files_below, trees_for
from forkhaul.words import are_ids, ascending


class Store:
    """Objects by their ids."""

    def __init__(self, *, short=False):
        self._short = short
        self._things = {}

    def put(self, thing):
        """Add an object and return its id."""
        name = id_of(thing, short=self._short)
        if name not in self._things:
            self._things[name] = thing
        elif self._things[name] != thing:
            raise Clash(name)
        return name

    def __getitem__(self, name):
        if name not in self:
            raise NoObject(name)
        return self._things[name]

    def __contains__(self, name):
        return isinstance(name, str) and name in self._things

    def __len__(self):
        return len(self._things)

    def __iter__(self):
        raise TypeError("a store is not iterated over: take its ids()")

    def ids(self):
        """Return the ids of all objects, ascending."""
        return ascending(self._things)

    def parts(self, name):
        """Return the ids that an object names."""
        return parts_of(self[name])

    def walk(self, starts, *, without=(), cut=()):
        """Yield what the starts reach and `without` does not: tags, commits, trees, blobs, each ascending."""
        _check_ids((starts, without, cut))
        barred = self.closure(without, {}, cut)
        found = self.closure(starts, barred, cut)
        absent = self._absent(found)
        if absent:
            raise NoObject(absent[0])
        ranked = sorted([f"{_rank(self._things[name])}{name}" for name in found])
        for row in ranked:
            yield row[1:]

    def missing(self, starts, *, cut=()):
        """Return all absent ids that the starts reach, ascending."""
        _check_ids((starts, cut))
        return self._absent(self.closure(starts, {}, cut))

    def put_files(self, files):
        """Put the trees for these files and return the id of the root."""
        check_files(files)
        pairs = trees_for(files, self._short)
        self._put_all(pairs)
        return pairs[-1][0]

    def files_of(self, name):
        """Return the files of a tree."""
        if name not in self:
            raise NoObject(name)
        return files_below(name, self._trees_below(name))

    def copied(self):
        """Return an independent store with the same objects."""
        other = Store(short=self._short)
        other.put_known(self._things)
        return other

    def put_known(self, things):
        """Add a dict of objects by their ids, which are known to be right."""
        self._things.update(things)

    def forget(self, name):
        """Remove an object; no history of this store may be asked afterwards."""
        del self._things[name]

    def long_id(self, name):
        """Return the long id of an object that is here."""
        return id_of(self._things[name]) if self._short else name

    def closure(self, starts, barred, cut):
        """Return a dict of all ids, present or not, that the starts reach without a way through the barred ones."""
        ends = {name: True for name in cut}
        found = {}
        todo = list(starts)
        while todo:
            name = todo.pop()
            if name not in found and name not in barred:
                found[name] = True
                if name in self._things:
                    todo.extend(parts_within(name, self._things[name], ends))
        return found

    def _put_all(self, pairs):
        """Put objects with their ids; if one clashes, none is put."""
        fresh = {}
        for name, thing in pairs:
            if fresh.get(name, thing) != thing or self._things.get(name, thing) != thing:
                raise Clash(name)
            fresh[name] = thing
        self._things.update(fresh)

    def _absent(self, names):
        return ascending([name for name in names if name not in self._things])

    def _trees_below(self, root):
        """Return a dict of the trees that a present object reaches as a tree."""
        trees = {}
        absent = []
        others = []
        todo = [root]
        while todo:
            name = todo.pop()
            if name in trees:
                continue
            if name not in self._things:
                absent.append(name)
            elif not isinstance(self._things[name], Tree):
                others.append(name)
            else:
                trees[name] = self._things[name]
                todo.extend(directories_of(trees[name]))
        if absent:
            raise NoObject(ascending(absent)[0])
        if others:
            raise BadObject(0)
        return trees


def _check_ids(arguments):
    for names in arguments:
        if not are_ids(names):
            raise BadName("these are no tuples of ids")


def parts_of(thing):
    """Return the ids that an object names."""
    if isinstance(thing, Tree):
        return tuple([name for _, name in thing.entries.values()])
    if isinstance(thing, Commit):
        return (thing.tree,) + thing.parents
    if isinstance(thing, Tag):
        return (thing.target,)
    return ()


def parts_within(name, thing, ends):
    """Return the parts of the object with this id that count with a cut, a dict with the ids of it as its keys."""
    if name in ends and isinstance(thing, Commit):
        return (thing.tree,)
    return parts_of(thing)


def parts_first(things):
    """Return an equal dict from ids to objects in which the parts of each object stand ahead of it."""
    is_open = {}
    ordered = {}
    todo = list(things)
    while todo:
        name = todo[-1]
        if name not in is_open:
            is_open[name] = True
            todo.extend([part for part in parts_of(things[name]) if part in things and part not in is_open])
        else:
            todo.pop()
            ordered[name] = things[name]
    return ordered


def _rank(thing):
    """Return the place of an object's kind in a walk."""
    if isinstance(thing, Tag):
        return 0
    if isinstance(thing, Commit):
        return 1
    if isinstance(thing, Tree):
        return 2
    return 3
