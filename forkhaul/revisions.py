"""Views [5.1], the values of revisions [5.2], [5.3] and of sets of commits [5.4]."""

from forkhaul.errors import BadExpression, NoObject, NoRef
from forkhaul.expressions import is_id_or_prefix, read_revision, read_terms
from forkhaul.history import History, behind_tags
from forkhaul.objects import Commit, Tree
from forkhaul.words import is_id


class View:
    """What expressions are read in: objects, references, and a history."""

    def __init__(self, store, refs, *, cut=()):
        self._store = store
        self._refs = refs
        self._history = History(store, cut=cut)

    @property
    def store(self):
        return self._store

    @property
    def refs(self):
        return self._refs

    @property
    def history(self):
        return self._history


def revision_of(view, text):
    """Return the id that a single revision names."""
    return _value_of(view, read_revision(text))


def commits_of(view, text):
    """Return the commits of a set, ascending."""
    wanted = []
    unwanted = []
    for form, revisions in read_terms(text):
        commits = [_commit_of_revision(view, revision) for revision in revisions]
        more, less = _ends_of(view.history, form, commits)
        wanted.extend(more)
        unwanted.extend(less)
    return view.history.span(tuple(wanted)) - view.history.span(tuple(unwanted))


def _ends_of(history, form, commits):
    """Return the commits whose history belongs to a term, and those whose history it takes away."""
    first = commits[0]
    if form == "^":
        return [], [first]
    if form == "..":
        return [commits[1]], [first]
    if form == "...":
        return commits, list(history.bases(first, commits[1]))
    if form == "^@":
        return list(history.parents_of(first)), []
    if form == "^!":
        return [first], list(history.parents_of(first))
    return [first], []


def _commit_of_revision(view, revision):
    """Return the commit to which a revision in a set leads."""
    name = behind_tags(view.store, _value_of(view, revision))
    return _checked_commit(view.store, name, revision[0])


def _value_of(view, revision):
    at, atom, suffixes = revision
    name = _atom_value(view, atom, at)
    for suffix in suffixes:
        name = _behind_suffix(view, name, suffix)
    return name


def _atom_value(view, atom, at):
    kind, worth = atom
    if kind == "word":
        return _first_with_word(view, worth, at)
    if kind == "back":
        name, number = worth
        return _checked(view.refs.back(name, number), at)
    if worth == "HEAD":
        return _at_head(view)
    return _named(view, worth, at)


def _at_head(view):
    name = view.refs.at_head()
    if name is None:
        raise NoRef("HEAD")
    return name


def _named(view, name, at):
    """Return what an id, a reference or the beginning of an id names."""
    if is_id(name):
        if name not in view.store:
            raise NoObject(name)
        return name
    if name in view.refs:
        return view.refs[name]
    found = [known for known in view.store.ids() if is_id_or_prefix(name) and known.startswith(name)]
    if len(found) > 1:
        raise BadExpression(at)
    if not found:
        raise NoRef(name)
    return found[0]


def _first_with_word(view, word, at):
    """Return the first commit behind HEAD, in order, that has the word in its message."""
    head = _checked_commit(view.store, behind_tags(view.store, _at_head(view)), at)
    commits = view.history.span((head,)).ids()
    found = [name for name in view.history.order(commits) if word in view.store[name].message]
    return _checked(found[0] if found else None, at)


def _behind_suffix(view, name, suffix):
    """Return the id to which a suffix leads from an id."""
    kind, at, worth = suffix
    name = behind_tags(view.store, name)
    if kind == "tree":
        return _tree_at(view.store, name, at)
    if kind == ":":
        return _at_path(view.store, _tree_at(view.store, name, at), worth, at)
    commit = _checked_commit(view.store, name, at)
    if kind == "~":
        return _first_parent(view, commit, worth, at)
    if kind == "^" and worth > 0:
        parents = view.history.parents_of(commit)
        return _checked(parents[worth - 1] if worth <= len(parents) else None, at)
    return commit


def _first_parent(view, name, number, at):
    for _ in range(number):
        parents = view.history.parents_of(_checked_commit(view.store, name, at))
        name = _checked(parents[0] if parents else None, at)
    return name


def _tree_at(store, name, at):
    """Return the id of this tree or of this commit's tree."""
    thing = store[name]
    if isinstance(thing, Commit):
        return thing.tree
    if not isinstance(thing, Tree):
        raise BadExpression(at)
    return name


def _at_path(store, name, path, at):
    """Return the id at a path in the tree of this name."""
    kind = "dir"
    for segment in path.split("/"):
        thing = store[name] if kind == "dir" else None
        if not isinstance(thing, Tree) or segment not in thing.entries:
            raise BadExpression(at)
        kind, name = thing.entries[segment]
    return name


def _checked_commit(store, name, at):
    if not isinstance(store[name], Commit):
        raise BadExpression(at)
    return name


def _checked(found, at):
    """Return what was found, unless it is None."""
    if found is None:
        raise BadExpression(at)
    return found
