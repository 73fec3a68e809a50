"""Changes [8.1], [8.2]: what happened to files, path by path."""

from forkhaul.errors import BadChange, Conflict
from forkhaul.merging import check_are_files, crossing, differences
from forkhaul.objects import FILE_KINDS, is_value
from forkhaul.words import ascending, is_path, prefixes


class Change:
    """A dict from paths to tuples of the old value and the new one."""

    def __init__(self, rows):
        if not isinstance(rows, dict) or not all([is_path(path) and _is_row(rows[path]) for path in rows]):
            raise BadChange("a change is a dict from paths to tuples of two values")
        self._rows = {path: rows[path] for path in ascending(rows)}

    @property
    def rows(self):
        return dict(self._rows)

    @classmethod
    def between(cls, old, new):
        """Return the change of all differences of two files."""
        return cls({path: (before, behind) for path, before, behind in differences(old, new)})

    def plain(self):
        """Return the change without the rows that change nothing."""
        return Change({path: (old, new) for path, (old, new) in self._rows.items() if old != new})

    def on(self, files):
        """Return the files after the change."""
        check_are_files([files])
        torn = [path for path in self._rows if files.get(path) != self._rows[path][0]]
        if torn:
            raise Conflict(ascending(torn))
        news = {path: new for path, (_, new) in self._rows.items()}
        values = {**files, **news}
        result = {path: values[path] for path in ascending(values) if values[path] is not None}
        crossed = crossing(result)
        if crossed:
            raise Conflict(ascending(crossed))
        return result

    def is_apart(self, other):
        """Return whether no path of one is a path of the other, or lies above or below one."""
        _check_change(other)
        return not _lie_at_or_below(self._rows, other._rows) and not _lie_at_or_below(other._rows, self._rows)

    def __add__(self, other):
        _check_change(other)
        shared = [path for path in self._rows if path in other._rows]
        if not all([self._rows[path][1] == other._rows[path][0] for path in shared]):
            raise BadChange("the second change does not begin where the first one ends")
        joined = {path: (self._rows[path][0], other._rows[path][1]) for path in shared}
        return Change({**self._rows, **other._rows, **joined})

    def __neg__(self):
        return Change({path: (self._rows[path][1], self._rows[path][0]) for path in self._rows})

    def __eq__(self, other):
        return isinstance(other, Change) and self._rows == other._rows


def _check_change(thing):
    if not isinstance(thing, Change):
        raise BadChange("this is no change")


def _is_row(thing):
    return isinstance(thing, tuple) and len(thing) == 2 and _is_value_or_none(thing[0]) and _is_value_or_none(thing[1])


def _is_value_or_none(thing):
    return thing is None or is_value(thing, FILE_KINDS)


def _lie_at_or_below(rows, others):
    """Return whether a path of the first rows is a path of the others, or lies below one."""
    return any([place in others for path in rows for place in [path, *prefixes(path)]])
