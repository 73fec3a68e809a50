"""Logs of paths [9.1], and the commits that touched the files of a commit last [9.2]."""

from forkhaul.errors import BadName, BadPath
from forkhaul.words import is_path, prefixes


def log_of(history, heads, *, paths=(), full=False):
    """Yield the commits behind the heads, or those of them that changed something at the paths, the latest first."""
    commits = history.span(heads).ids()
    if not isinstance(paths, tuple) or not all([is_path(path) for path in paths]):
        raise BadPath("the paths of a log are a tuple of paths")
    if not isinstance(full, bool):
        raise BadName("a log is full or not")
    kept = {}
    if paths:
        kept = _files_of_all(history, commits, {path: True for path in paths})
        commits = _walked(history, heads, kept, full)
    for name in history.order(commits):
        if not paths or _is_shown(history, name, kept):
            yield name


def touched(history, head):
    """Return a dict from the paths of a commit's files to the commits from which they have their values."""
    files = _files_of_all(history, history.span((head,)).ids(), {})
    return {path: _origin_of(history, head, path, files) for path in files[head]}


def _files_of_all(history, commits, wanted):
    """Return a dict from commits to those of their files that lie at or below the wanted paths, if there are some.

    Commits with one tree share one dict: it is read only.
    """
    by_tree = {}
    files = {}
    known = {}
    for name in history.order(commits):
        tree = history.tree_of(name)
        if tree not in by_tree:
            by_tree[tree] = _restricted(history.files(name), wanted, known)
        files[name] = by_tree[tree]
    return files


def _restricted(files, wanted, known):
    """Return the files at or below the wanted paths; `known` keeps what was found out of each path."""
    for path in files:
        if path not in known:
            known[path] = not wanted or any([place in wanted for place in [path, *prefixes(path)]])
    return {path: files[path] for path in files if known[path]}


def _walked(history, heads, kept, full):
    """Return the tuple of the commits to which the walk from the heads comes."""
    walked = {}
    todo = list(heads)
    while todo:
        name = todo.pop()
        if name not in walked:
            walked[name] = True
            todo.extend(_followed(history, name, kept, full))
    return tuple(walked)


def _followed(history, name, kept, full):
    """Return the parents to which the walk goes on from a commit."""
    parents = history.parents_of(name)
    same = [] if full else [parent for parent in parents if kept[parent] == kept[name]]
    return same[:1] if same else parents


def _is_shown(history, name, kept):
    parents = history.parents_of(name)
    if not parents:
        return kept[name] != {}
    return all([kept[parent] != kept[name] for parent in parents])


def _origin_of(history, name, path, files):
    """Return the commit at which the way from one to the first parent with the same value at a path ends."""
    same = [name]
    while same:
        name = same[0]
        same = [parent for parent in history.parents_of(name) if files[parent].get(path) == files[name][path]]
    return name
