"""The forms of the letters of a fetch [12.2]: a letter is a tuple whose first item is its word."""

from forkhaul.cuts import is_depth
from forkhaul.states import are_rows
from forkhaul.words import are_ids, is_id, is_ref

FAR = "far/"
READY = ("ready",)
DONE = ("done",)
MOST_ASKED = 16


def is_heads(thing):
    """Return whether it is a letter of references and ids, ascending, none of them of another repository."""
    if not _is_letter(thing, "heads", 2) or not are_rows(thing[1]):
        return False
    return all([is_ref(ref) and not ref.startswith(FAR) and is_id(name) for ref, name in thing[1]])


def is_want(thing):
    """Return whether it is a letter of one id or more, a cut, and a depth or None."""
    if not _is_letter(thing, "want", 4):
        return False
    _, ids, cut, depth = thing
    return are_ascending(ids) and ids != () and are_ascending(cut) and (depth is None or is_depth(depth))


def is_have(thing):
    """Return whether it is a letter of 1 to 16 different ids."""
    if not _is_letter(thing, "have", 2) or not are_ids(thing[1]):
        return False
    return 1 <= len(thing[1]) <= MOST_ASKED and len(set(thing[1])) == len(thing[1])


def is_common(thing, asked):
    """Return whether it is a letter of some of the ids that were asked, in their order."""
    if not _is_letter(thing, "common", 2) or not are_ids(thing[1]):
        return False
    return thing[1] == tuple([name for name in asked if name in thing[1]])


def is_pack(thing):
    """Return whether it is a letter of some data, which is not looked at here, and a cut."""
    return _is_letter(thing, "pack", 3) and are_ascending(thing[2])


def are_ascending(thing):
    """Return whether it is a tuple of ids in ascending order, each once."""
    return are_ids(thing) and all([name < after for name, after in zip(thing, thing[1:])])


def _is_letter(thing, word, length):
    return isinstance(thing, tuple) and len(thing) == length and thing[0] == word
