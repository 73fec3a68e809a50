"""Files [3.3] as trees: the trees for given files, and the files of given trees."""

from forkhaul.codes import id_of
from forkhaul.errors import BadName, BadPath
from forkhaul.objects import FILE_KINDS, Blob, Tree, is_value
from forkhaul.words import ascending, have_prefixes, is_path


def check_paths(files):
    """Raise BadPath for what is no dict with paths that can stand side by side as its keys."""
    if not isinstance(files, dict) or not all([is_path(path) for path in files]):
        raise BadPath("files are a dict with paths as its keys")
    if have_prefixes(files):
        raise BadPath("one path lies below another one")


def check_files(files):
    """Raise BadPath or BadName for what is no dict of files that can be put."""
    check_paths(files)
    for path in files:
        if not is_value(files[path], FILE_KINDS):
            raise BadName("a file is a tuple of its kind and an id")


def things_of(texts):
    """Return the id of the root tree for a dict from paths to tuples of a kind and a text, and a dict of all objects.

    In the dict the parts of an object stand ahead of it.
    """
    check_paths(texts)
    files = {}
    things = {}
    for path in ascending(texts):
        kind, blob = _blob_of(texts[path])
        name = id_of(blob)
        things[name] = blob
        files[path] = (kind, name)
    trees = trees_for(files, False)
    return trees[-1][0], {**things, **dict(trees)}


def trees_for(files, short):
    """Return the trees for checked files as pairs of an id and a tree, those below first, the root last."""
    entries = {}
    below = {}
    for path in files:
        first, slash, rest = path.partition("/")
        if slash == "":
            entries[first] = files[path]
        else:
            if first not in below:
                below[first] = {}
            below[first][rest] = files[path]
    pairs = []
    for first in below:
        pairs.extend(trees_for(below[first], short))
        entries[first] = ("dir", pairs[-1][0])
    tree = Tree(entries)
    pairs.append((id_of(tree, short=short), tree))
    return pairs


def _blob_of(thing):
    """Return the kind and the blob of a tuple of a kind and a text."""
    if not isinstance(thing, tuple) or len(thing) != 2 or thing[0] not in FILE_KINDS:
        raise BadName("a file is a tuple of its kind and a text")
    return thing[0], Blob(thing[1])


def directories_of(tree):
    """Return the ids of the trees that stand in a tree."""
    return [name for kind, name in tree.entries.values() if kind == "dir"]


def files_below(root, trees):
    """Return the files of the tree with the id `root`, given a dict of all trees that it reaches."""
    full = _full_trees(trees)
    files = {}
    todo = [("", root)]
    while todo:
        front, at = todo.pop()
        for segment, (kind, name) in trees[at].entries.items():
            if kind != "dir":
                files[front + segment] = (kind, name)
            elif name in full:
                todo.append((front + segment + "/", name))
    return {path: files[path] for path in ascending(files)}


def _full_trees(trees):
    """Return the trees with files at some depth: the ways through empty trees alone can be beyond counting."""
    above = {name: [] for name in trees}
    todo = []
    for name in trees:
        tree = trees[name]
        inner = directories_of(tree)
        for part in inner:
            above[part].append(name)
        if len(inner) < len(tree.entries):
            todo.append(name)
    full = {}
    while todo:
        name = todo.pop()
        if name not in full:
            full[name] = True
            todo.extend(above[name])
    return full
