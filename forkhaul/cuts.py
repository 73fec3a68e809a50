"""Which commits a copy of a limited depth keeps, and where it ends [14.1]."""

from forkhaul.errors import BadCommand, BadName, BadObject, NoObject
from forkhaul.history import behind_tags
from forkhaul.objects import Commit
from forkhaul.words import are_ids, ascending, is_count

GREATEST_DEPTH = 200


def shallow(store, heads, depth, *, cut=()):
    """Return the commits at a distance of less than `depth` from the heads, and those of them that end the copy."""
    if not are_ids(heads):
        raise BadName("heads are a tuple of ids")
    if not is_depth(depth):
        raise BadCommand("a depth is a whole number from 1 to 200")
    if not are_ids(cut):
        raise BadName("a cut is a tuple of ids")
    closed = {name: True for name in cut}
    kept = _kept_commits(store, heads, depth, closed)
    return ascending(kept), ascending([name for name in kept if _is_end(store[name].parents, name in closed, kept)])


def is_depth(thing):
    """Return whether it is a whole number from 1 to 200."""
    return is_count(thing) and 1 <= thing <= GREATEST_DEPTH


def _kept_commits(store, heads, depth, closed):
    """Return a dict of the commits that are kept."""
    targets = [behind_tags(store, name) for name in heads]
    absent = [name for name in targets if name not in store]
    others = []
    kept = {}
    row = [name for name in targets if name in store and isinstance(store[name], Commit)]
    for _ in range(depth):
        below = []
        for name in row:
            if name in kept:
                continue
            if name not in store:
                absent.append(name)
            elif not isinstance(store[name], Commit):
                others.append(name)
            else:
                kept[name] = True
                if name not in closed:
                    below.extend(store[name].parents)
        row = below
    if absent:
        raise NoObject(ascending(absent)[0])
    if others:
        raise BadObject(0)
    return kept


def _is_end(parents, is_closed, kept):
    """Return whether a kept commit with these parents has none of them, or not all, in the copy."""
    if is_closed:
        return len(parents) > 0
    return any([parent not in kept for parent in parents])
