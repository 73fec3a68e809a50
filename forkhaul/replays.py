"""Changes of commits, transplanted: one by `pick` [8.3], a row of them by `Replay` [8.4]."""

from forkhaul.errors import BadChange, BadName, Conflict
from forkhaul.history import commit_of
from forkhaul.merging import merged
from forkhaul.objects import Commit
from forkhaul.words import is_time


def pick(store, name, onto, *, revert=False, time=None):
    """Put a commit that does onto another one what this one did, or that takes it back, and return its id."""
    commit = commit_of(store, name)
    target_commit = commit_of(store, onto)
    if time is not None and not is_time(time):
        raise BadName("the time of a commit")
    if len(commit.parents) > 1:
        raise BadChange("a merge has no change of its own")
    before = _parent_files(store, commit)
    behind = store.files_of(commit.tree)
    there = store.files_of(target_commit.tree)
    if revert:
        files, conflicts = merged((behind,), there, before)
    else:
        files, conflicts = merged((before,), there, behind)
    if conflicts:
        raise Conflict(conflicts)
    return _put_like(store, commit, onto, files, commit.time if time is None else time)


class Replay:
    """Picks commits, one after the other, each onto the result of the one before."""

    def __init__(self, store, names, onto):
        if not isinstance(names, tuple):
            raise BadName("the commits of a replay are a tuple")
        for name in names:
            if len(commit_of(store, name).parents) != 1:
                raise BadChange("a replayed commit has one parent")
        commit_of(store, onto)
        self._store = store
        self._names = names
        self._tip = onto
        self._stopped = None
        self._rows = []

    @property
    def stopped(self):
        return self._stopped

    @property
    def tip(self):
        return self._tip

    def step(self):
        """Pick the next commit and return True, or return False if none is left."""
        if self._stopped is not None:
            raise BadChange("the replay is stopped")
        if len(self._rows) == len(self._names):
            return False
        name = self._names[len(self._rows)]
        try:
            new = pick(self._store, name, self._tip)
        except Conflict:
            self._stopped = name
            raise
        if self._changes_nothing(new, self._tip) and not self._changes_nothing(name, self._parent_of(name)):
            self._go_on(name, None)
        else:
            self._go_on(name, new)
        return True

    def settle(self, files):
        """Commit these files in the place of the commit at which the replay stopped, and return the new id."""
        self._check_stopped()
        old = commit_of(self._store, self._stopped)
        new = _put_like(self._store, old, self._tip, files, old.time)
        self._go_on(self._stopped, new)
        return new

    def skip(self):
        """Drop the commit at which the replay stopped."""
        self._check_stopped()
        self._go_on(self._stopped, None)

    def done(self):
        """Return the tuples (old id, new id or None) of the commits that are over."""
        return list(self._rows)

    def _check_stopped(self):
        if self._stopped is None:
            raise BadChange("the replay is not stopped")

    def _go_on(self, old, new):
        """Note what became of a commit; None: it was dropped."""
        self._rows.append((old, new))
        self._stopped = None
        if new is not None:
            self._tip = new

    def _parent_of(self, name):
        return commit_of(self._store, name).parents[0]

    def _changes_nothing(self, name, parent):
        """Return whether a commit has the tree of its parent."""
        return commit_of(self._store, name).tree == commit_of(self._store, parent).tree


def _parent_files(store, commit):
    """Return the files that a commit with at most one parent started from."""
    if not commit.parents:
        return {}
    return store.files_of(commit_of(store, commit.parents[0]).tree)


def _put_like(store, commit, onto, files, time):
    """Put a commit of these files onto another one, with the author and the message of a given commit."""
    tree = store.put_files(files)
    return store.put(Commit(tree, (onto,), author=commit.author, time=time, message=commit.message))
