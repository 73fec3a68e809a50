"""Differences of files [7.1], merged files [7.2] and merges of commits [7.3]."""

from forkhaul.errors import BadPath
from forkhaul.objects import FILE_KINDS, is_value
from forkhaul.words import ascending, is_path, prefixes


def differences(old, new):
    """Return the tuples (path, old value, new value) of all paths at which two files differ."""
    check_are_files([old, new])
    rows = [(path, old.get(path), new.get(path)) for path in ascending({**old, **new})]
    return [(path, before, behind) for path, before, behind in rows if before != behind]


def merged(bases, ours, theirs):
    """Return the merged files and the paths at which they conflict."""
    if not isinstance(bases, tuple):
        raise BadPath("bases are a tuple of files")
    check_are_files([*bases, ours, theirs])
    values = {path: _merged_values([base.get(path) for base in bases], ours.get(path), theirs.get(path))
              for path in {**ours, **theirs}}
    torn = [path for path in values if len(values[path]) > 1]
    results = {path: values[path][0] for path in values if len(values[path]) == 1 and values[path][0] is not None}
    crossed = crossing(results)
    files = {path: results[path] for path in ascending(results) if path not in crossed}
    return files, ascending(torn + list(crossed))


def merge_of(history, one, other):
    """Return the merged files of two commits of a history, and the paths at which they conflict."""
    bases = tuple([history.files(base) for base in history.bases(one, other)])
    return merged(bases, history.files(one), history.files(other))


def check_are_files(arguments):
    """Raise BadPath unless each of these is files: a dict from paths to values."""
    for files in arguments:
        if not isinstance(files, dict):
            raise BadPath("files are a dict")
        for path in files:
            if not is_path(path) or not is_value(files[path], FILE_KINDS):
                raise BadPath("files are a dict from paths to tuples of a kind and an id")


def crossing(paths):
    """Return a dict of those keys of a dict of paths that lie above or below another key."""
    found = {}
    for path in paths:
        for prefix in prefixes(path):
            if prefix in paths:
                found[prefix] = True
                found[path] = True
    return found


def _merged_values(olds, mine, other):
    """Return the list of the one value that the bases leave of two, or of both where they conflict."""
    if mine == other:
        return [mine]
    old = olds[0] if olds else None
    if any([value != old for value in olds]):
        return [mine, other]
    if mine == old:
        return [other]
    if other == old:
        return [mine]
    return [mine, other]
