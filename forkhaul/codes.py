"""Canonical bytes of objects [2.2], and their sums and ids [2.3]."""

from forkhaul.errors import BadName, BadObject
from forkhaul.objects import ENTRY_KINDS, MOST_ENTRIES, MOST_PARENTS, Blob, Commit, Tag, Tree
from forkhaul.words import LATEST, is_author, is_id, is_message, is_segment, is_text

LONG_MODULUS = 2 ** 61 - 1
SHORT_MODULUS = 251
FACTOR = 1000003
FACTOR_2 = FACTOR * FACTOR
FACTOR_4 = FACTOR_2 * FACTOR_2
FACTOR_8 = FACTOR_4 * FACTOR_4
ONES_8 = (FACTOR_4 + 1) * (FACTOR_2 + 1) * (FACTOR + 1)
BLOCK = 256


def encode(thing):
    """Return the canonical bytes of an object."""
    if isinstance(thing, Blob):
        return ("blob\n" + thing.text).encode("ascii")
    if isinstance(thing, Tree):
        lines = [f"{kind} {segment} {name}\n" for segment, (kind, name) in thing.entries.items()]
        return ("tree\n" + "".join(lines)).encode("ascii")
    if isinstance(thing, Commit):
        parents = "".join([f"parent {name}\n" for name in thing.parents])
        head = f"commit\ntree {thing.tree}\n{parents}author {thing.author}\ntime {thing.time}\n\n"
        return (head + thing.message).encode("ascii")
    if isinstance(thing, Tag):
        return f"tag\ntarget {thing.target}\nlabel {thing.label}\n\n{thing.message}".encode("ascii")
    raise BadName("what is no object has no bytes")


def decode(data):
    """Return the object whose canonical bytes these are; BadObject(at) tells where they are not."""
    if not isinstance(data, bytes):
        raise BadObject(0)
    kind = _line_at(data, 0)
    if kind == "blob":
        return Blob(_text_at(data, 5, is_text))
    if kind == "tree":
        return _decoded_tree(data)
    if kind == "commit":
        return _decoded_commit(data)
    if kind == "tag":
        return _decoded_tag(data)
    raise BadObject(0)


def sum_of(data, *, short=False):
    """Return the sum of bytes, 16 hexadecimal digits; short sums are for tests of clashes."""
    if not isinstance(data, bytes):
        raise BadName("only bytes have a sum")
    modulus = SHORT_MODULUS if short is True else LONG_MODULUS
    factor = int(FACTOR_8) % modulus
    number = 7
    for at in range(0, len(data), BLOCK):
        number = int(_number_behind(number, data[at:at + BLOCK], factor)) % modulus
    return f"{number:016x}"


def id_of(thing, *, short=False):
    """Return the id of an object: the sum of its canonical bytes."""
    return sum_of(encode(thing), short=short)


def _number_behind(number, data, factor):
    """Return what a sum's number becomes by some more bytes; `factor` stands for eight of them.

    Sums are most of the work of a store: it is done by eight bytes at once, and without a remainder at each step.
    """
    rest = len(data) & 7
    for byte in data[:rest]:
        number = number * FACTOR + byte + 1
    whole = data[rest:]
    steps = iter(whole)
    for a, b, c, d, e, f, g, h in zip(steps, steps, steps, steps, steps, steps, steps, steps):
        number = number * factor + ((a * FACTOR + b) * FACTOR_2 + (c * FACTOR + d)) * FACTOR_4 + (
            (e * FACTOR + f) * FACTOR_2 + (g * FACTOR + h + ONES_8))
    return number


def _line_at(data, at):
    """Return the line that begins at this index, without its line feed, or None if no whole one does."""
    end = data.find(b"\n", at)
    if end < 0 or not data[at:end].isascii():
        return None
    return data[at:end].decode("ascii")


def _text_at(data, at, is_allowed):
    """Return the text from this index to the end."""
    if not data[at:].isascii() or not is_allowed(data[at:].decode("ascii")):
        raise BadObject(at)
    return data[at:].decode("ascii")


def _word_at(data, at, head, is_allowed):
    """Return the word behind the head of the line that begins at this index."""
    line = _line_at(data, at)
    if line is None or not line.startswith(head + " ") or not is_allowed(line[len(head) + 1:]):
        raise BadObject(at)
    return line[len(head) + 1:]


def _behind(at, head, word):
    """Return the index behind the line of this head and this word."""
    return at + len(head) + len(word) + 2


def _decoded_tree(data):
    at = len("tree\n")
    entries = {}
    last = ""
    while at < len(data):
        line = _line_at(data, at)
        if line is None or len(entries) == MOST_ENTRIES or not _is_entry_line(line):
            raise BadObject(at)
        kind, segment, name = line.split(" ")
        if segment <= last:
            raise BadObject(at)
        entries[segment] = (kind, name)
        last = segment
        at = at + len(line) + 1
    return Tree(entries)


def _is_entry_line(line):
    words = line.split(" ")
    return len(words) == 3 and words[0] in ENTRY_KINDS and is_segment(words[1]) and is_id(words[2])


def _decoded_commit(data):
    at = len("commit\n")
    tree = _word_at(data, at, "tree", is_id)
    at = _behind(at, "tree", tree)
    parents = _parents_at(data, at)
    for parent in parents:
        at = _behind(at, "parent", parent)
    author = _word_at(data, at, "author", is_author)
    at = _behind(at, "author", author)
    time = _word_at(data, at, "time", _is_decimal_time)
    at = _behind(at, "time", time)
    message = _message_at(data, at)
    return Commit(tree, parents, author=author, time=int(time), message=message)


def _parents_at(data, at):
    parents = []
    while data[at:].startswith(b"parent "):
        parent = _word_at(data, at, "parent", is_id)
        if parent in parents or len(parents) == MOST_PARENTS:
            raise BadObject(at)
        parents.append(parent)
        at = _behind(at, "parent", parent)
    return tuple(parents)


def _is_decimal_time(word):
    # A word of very many digits is left alone: Python refuses to read it as a number.
    if not word.isdigit() or len(word) > len(str(LATEST)):
        return False
    return word == str(int(word)) and int(word) <= LATEST


def _decoded_tag(data):
    at = len("tag\n")
    target = _word_at(data, at, "target", is_id)
    at = _behind(at, "target", target)
    label = _word_at(data, at, "label", is_segment)
    at = _behind(at, "label", label)
    return Tag(target, label=label, message=_message_at(data, at))


def _message_at(data, at):
    """Return the message behind the empty line that begins at this index."""
    if _line_at(data, at) != "":
        raise BadObject(at)
    return _text_at(data, at + 1, is_message)
