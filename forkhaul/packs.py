"""Packs [11.1] to [11.3]: objects of a store as bytes, with a sum at the end."""

from forkhaul.codes import decode, encode, sum_of
from forkhaul.errors import BadObject, BadPack
from forkhaul.words import ascending

COUNT_DIGITS = 4
LENGTH_DIGITS = 6
SUM_LENGTH = 16


def pack(store, ids):
    """Return the pack of the objects with these ids."""
    things = [store[name] for name in ids]
    # The order is that of the long ids, also where the store has short ones.
    by_long_id = {store.long_id(name): thing for name, thing in zip(ids, things)}
    parts = [_line_of("pack ", len(by_long_id))]
    for name in ascending(by_long_id):
        code = encode(by_long_id[name])
        parts.extend([_line_of("", len(code)), code])
    body = b"".join(parts)
    return body + sum_of(body).encode("ascii")


def unpack(data):
    """Return the list of the objects of a pack; BadPack(at) tells where it is none."""
    return list(unpacked(data).values())


def unpacked(data):
    """Return the dict of the objects of a pack by their ids."""
    if not isinstance(data, bytes):
        raise BadPack(0)
    many, at = _number_at(data, 0, b"pack ", COUNT_DIGITS)
    things = {}
    last = ""
    for _ in range(many):
        length, begin = _number_at(data, at, b"", LENGTH_DIGITS)
        if length == 0:
            raise BadPack(at)
        at = begin + length
        thing, name = _thing_at(data, begin, at)
        if name <= last:
            raise BadPack(begin)
        things[name] = thing
        last = name
    _check_sum(data, at)
    return things


def _line_of(head, number):
    return f"{head}{number}\n".encode("ascii")


def _number_at(data, at, head, most_digits):
    """Return the number in the line that begins at this index, behind its head, and the index behind the line."""
    end = data.find(b"\n", at)
    digits = data[at + len(head):end]
    # A number of very many digits is left alone: Python refuses to read it.
    if end < 0 or not data[at:end].startswith(head) or not digits.isdigit() or len(digits) > most_digits:
        raise BadPack(at)
    if digits.startswith(b"0") and len(digits) > 1:
        raise BadPack(at)
    return int(digits), end + 1


def _thing_at(data, begin, end):
    """Return the object with the bytes between these indexes, and its id."""
    code = data[begin:end]
    if end > len(data):
        raise BadPack(begin)
    try:
        thing = decode(code)
    except BadObject:
        raise BadPack(begin) from None
    return thing, sum_of(code)


def _check_sum(data, at):
    if data[at:at + SUM_LENGTH] != sum_of(data[:at]).encode("ascii"):
        raise BadPack(at)
    if len(data) > at + SUM_LENGTH:
        raise BadPack(at + SUM_LENGTH)
