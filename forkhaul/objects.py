"""The four kinds of objects [2.1]: immutable values that name each other by ids."""

from forkhaul.errors import BadName
from forkhaul.words import are_ids, ascending, is_author, is_id, is_message, is_segment, is_text, is_time

FILE_KINDS = ("file", "exec")
ENTRY_KINDS = ("file", "exec", "dir")
MOST_ENTRIES = 30
MOST_PARENTS = 6


def is_value(thing, kinds):
    """Return whether it is a tuple of one of these kinds and an id."""
    if not isinstance(thing, tuple) or len(thing) != 2:
        return False
    kind, name = thing
    return kind in kinds and is_id(name)


class Blob:
    """The text of a file."""

    def __init__(self, text):
        if not is_text(text):
            raise BadName("the text of a blob")
        self._text = text

    def __eq__(self, other):
        return isinstance(other, Blob) and self._text == other._text

    @property
    def text(self):
        return self._text


class Tree:
    """A directory: a dict from path segments to tuples of a kind and an id."""

    def __init__(self, entries):
        if not isinstance(entries, dict) or len(entries) > MOST_ENTRIES:
            raise BadName("the entries of a tree")
        for segment in entries:
            if not is_segment(segment) or not is_value(entries[segment], ENTRY_KINDS):
                raise BadName("an entry of a tree")
        self._entries = {segment: entries[segment] for segment in ascending(entries)}

    def __eq__(self, other):
        return isinstance(other, Tree) and self._entries == other._entries

    @property
    def entries(self):
        return dict(self._entries)


class Commit:
    """A tree with the commits that it came from."""

    def __init__(self, tree, parents=(), *, author, time, message=""):
        if not is_id(tree):
            raise BadName("the tree of a commit")
        if not are_ids(parents) or len(parents) > MOST_PARENTS or len(set(parents)) < len(parents):
            raise BadName("the parents of a commit")
        if not is_author(author):
            raise BadName("the author of a commit")
        if not is_time(time):
            raise BadName("the time of a commit")
        if not is_message(message):
            raise BadName("the message of a commit")
        self._tree = tree
        self._parents = parents
        self._author = author
        self._time = time
        self._message = message

    def __eq__(self, other):
        return (isinstance(other, Commit) and self._tree == other._tree and self._parents == other._parents
                and self._author == other._author and self._time == other._time
                and self._message == other._message)

    @property
    def tree(self):
        return self._tree

    @property
    def parents(self):
        return self._parents

    @property
    def author(self):
        return self._author

    @property
    def time(self):
        return self._time

    @property
    def message(self):
        return self._message


class Tag:
    """A label for an object."""

    def __init__(self, target, *, label, message=""):
        if not is_id(target):
            raise BadName("the target of a tag")
        if not is_segment(label):
            raise BadName("the label of a tag")
        if not is_message(message):
            raise BadName("the message of a tag")
        self._target = target
        self._label = label
        self._message = message

    def __eq__(self, other):
        return (isinstance(other, Tag) and self._target == other._target and self._label == other._label
                and self._message == other._message)

    @property
    def target(self):
        return self._target

    @property
    def label(self):
        return self._label

    @property
    def message(self):
        return self._message
