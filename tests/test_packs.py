"""[11.1] to [11.3] Packs."""

import unittest

from forkhaul.codes import encode, id_of, sum_of
from forkhaul.errors import BadPack, NoObject
from forkhaul.objects import Blob, Commit, Tag, Tree
from forkhaul.packs import pack, unpack
from forkhaul.store import Store
from tests.helpers import MOST, ONE, TWO, ZERO, Case, chance, odd_things

THINGS = (
    Blob(""), Blob("text\n1\nblob\n"), Blob("x" * 2000), Tree({}), Tree({"a": ("file", ONE), "b": ("dir", TWO)}),
    Commit(ZERO, author="ann", time=0), Commit(ZERO, (ONE, TWO), author="bob", time=10 ** 12, message="two\nlines\n"),
    Tag(MOST, label="v1"), Tag(ONE, label="v.2", message="1\n"),
)
NUMBERS = (b"", b"00", b"01", b"-1", b"+1", b" 1", b"1 ", b"1.0", b"x", b"0x1", b"1_0", b"\xb2", b"\xff", b"1" * 5000,
           b"0" * 5000, b"1000000", b"9" * 20)


def by_id(things):
    return sorted(things, key=id_of)


def packed(things, many=None):
    """A pack by the words of the document; the objects stand in the order in which they are given."""
    body = f"pack {len(things) if many is None else many}\n".encode()
    for thing in things:
        body += f"{len(encode(thing))}\n".encode() + encode(thing)
    return with_sum(body)


def with_sum(body):
    return body + sum_of(body).encode()


class Packing(Case):
    def store(self, things=THINGS, short=False):
        store = Store(short=short)
        for thing in things:
            store.put(thing)
        return store

    def test_every_kind(self):
        store = self.store()
        self.assertEqual(pack(store, store.ids()), packed(by_id(THINGS)))
        self.assertEqual(pack(store=store, ids=list(store.ids())[::-1]), packed(by_id(THINGS)))
        for thing in THINGS:
            self.assertEqual(pack(store, (id_of(thing),)), packed([thing]))

    def test_none(self):
        for ids in ((), []):
            self.assertEqual(pack(self.store(), ids), b"pack 0\n" + sum_of(b"pack 0\n").encode())
        self.assertIs(type(pack(Store(), ())), bytes)

    def test_repeated_ids(self):
        one, other = by_id(THINGS[:2])
        ids = [id_of(other), id_of(one), id_of(other), id_of(one)]
        self.assertEqual(pack(self.store(), ids), packed([one, other]))
        self.assertEqual(len(ids), 4)

    def test_a_store_with_short_ids(self):
        things = [Blob("a"), Blob("b"), Tree({}), Commit(ONE, author="ann", time=3), Tag(TWO, label="v1")]
        store = self.store(things, short=True)
        self.assertEqual(len(store), 5)
        self.assertEqual(pack(store, store.ids()), packed(by_id(things)))
        orders = {tuple(store.ids()), tuple([id_of(thing, short=True) for thing in by_id(things)])}
        self.assertEqual(len(orders), 2)
        self.assertEqual(unpack(pack(store, store.ids())), by_id(things))
        long = id_of(Blob("a"))
        self.assert_error(NoObject, pack, store, (long,), name=long)

    def test_ids_that_are_not_there(self):
        store = self.store()
        name = id_of(THINGS[0])
        for thing in [*odd_things(), ONE, name[:-1], name.encode()]:
            self.assert_error(NoObject, pack, store, (thing,), name=thing)
            self.assert_error(NoObject, pack, store, [name, thing, TWO], name=thing)
        self.assert_error(NoObject, pack, store, (name, TWO, ONE), name=TWO)


class Unpacking(Case):
    def assert_bad(self, data, at):
        self.assert_error(BadPack, lambda: unpack(data), at=at)

    def test_there_and_back(self):
        for many in range(len(THINGS) + 1):
            things = by_id(THINGS[:many])
            self.assertEqual(unpack(data=packed(things)), things)
        self.assertEqual(unpack(b"pack 0\n" + sum_of(b"pack 0\n").encode()), [])
        first = unpack(packed([Blob("a")]))
        first.clear()
        self.assertEqual(unpack(packed([Blob("a")])), [Blob("a")])

    def test_a_great_pack(self):
        store = Store()
        for at in range(1500):
            store.put(Blob(f"blob {at}\n" * (at % 7)) if at % 3 else Tag(ONE, label=f"v{at}"))
        data = pack(store, store.ids())
        self.assertEqual([id_of(thing) for thing in unpack(data)], list(store.ids()))
        self.assertEqual(data[:data.index(b"\n")], f"pack {len(store)}".encode())

    def test_what_is_no_bytes(self):
        for thing in odd_things():
            self.assert_error(BadPack, unpack, thing, at=0)
        self.assert_error(BadPack, unpack, packed([]).decode(), at=0)
        self.assert_error(BadPack, unpack, bytearray(packed([])), at=0)
        self.assert_error(BadPack, unpack, list(packed([])), at=0)

    def test_the_first_line(self):
        for number in [*NUMBERS, b"10000", b"99999"]:
            self.assert_bad(with_sum(b"pack " + number + b"\n"), 0)
        for line in (b"pack0\n", b"Pack 0\n", b"pack  0\n", b" pack 0\n", b"pack\n", b"pack \n", b"pack 0", b"pack 0\r\n",
                     b"\n", b"pack 0 \n", b"pack 0\n"[1:]):
            self.assert_bad(with_sum(line), 0)

    def test_greater_and_lesser_numbers_of_objects(self):
        things = by_id(THINGS[:3])
        data = packed(things)
        end = len(data) - 16
        for many in (4, 9999):
            self.assert_bad(packed(things, many), end + len(str(many)) - 1)
        self.assert_bad(packed(things, 2), end - len(encode(things[2])) - len(str(len(encode(things[2])))) - 1)
        self.assert_bad(packed(things, 0), 7)

    def place_of(self, things, at):
        """The index of the length's line of an object in a pack."""
        body = f"pack {len(things)}\n"
        for thing in things[:at]:
            body += f"{len(encode(thing))}\n" + encode(thing).decode()
        return len(body)

    def test_lengths(self):
        things = by_id(THINGS)
        for at in (0, 3, len(things) - 1):
            place = self.place_of(things, at)
            data = packed(things)[:-16]
            end = data.index(b"\n", place)
            for number in [*NUMBERS, b"0", b"0" + data[place:end]]:
                self.assert_bad(with_sum(data[:place] + number + data[end:]), place)
            self.assert_bad(with_sum(data[:place] + data[end + 1:]), place)

    def test_the_greatest_length(self):
        self.assert_bad(with_sum(b"pack 1\n999999\nblob\n"), 14)
        self.assert_bad(with_sum(b"pack 1\n1000000\nblob\n"), 7)
        long = b"blob\n" + b"x" * 999994
        self.assert_bad(with_sum(b"pack 1\n999999\n" + long), 14)

    def test_bytes_that_are_no_objects(self):
        for code in (b"blob", b"Blob\n", b"blob\n\x80", b"blob\n\t", b"tree\nfile b 0000000000000000\nfile a 0000000000000000\n",
                     b"x", b"\n", b"commit\n", b"blob\n" + b"x" * 2001, b"tag\ntarget " + ONE.encode() + b"\nlabel x\n"):
            body = f"pack 1\n{len(code)}\n".encode()
            self.assert_bad(with_sum(body + code), len(body))
        things = by_id(THINGS)
        for at in (0, 4, len(things) - 1):
            place = self.place_of(things, at)
            data = packed(things)
            begin = data.index(b"\n", place) + 1
            self.assert_bad(data[:begin] + b"B" + data[begin + 1:], begin)

    def test_lengths_that_are_wrong_by_one(self):
        self.assert_bad(with_sum(b"pack 1\n4\nblob\n"), 9)
        self.assert_bad(with_sum(b"pack 1\n6\ntree\n"), 9)
        self.assertEqual(unpack(with_sum(b"pack 1\n5\nblob\n")), [Blob("")])

    def test_the_order_of_the_ids(self):
        things = by_id(THINGS)
        for at in range(1, len(things)):
            turned = things[:at - 1] + [things[at], things[at - 1]] + things[at + 1:]
            data = packed(turned)
            self.assert_bad(data, data.index(b"\n", self.place_of(turned, at)) + 1)
            twice = things[:at] + things[at - 1:]
            data = packed(twice)
            self.assert_bad(data, data.index(b"\n", self.place_of(twice, at)) + 1)

    def test_the_sum(self):
        for things in ([], by_id(THINGS)):
            data = packed(things)
            end = len(data) - 16
            self.assert_bad(data[:end], end)
            self.assert_bad(data[:-1], end)
            self.assert_bad(data[:end] + ZERO.encode(), end)
            if data[end:].upper() != data[end:]:
                self.assert_bad(data[:end] + data[end:].upper(), end)
            self.assert_bad(data[:-1] + bytes([data[-1] ^ 1]), end)
            self.assert_bad(data[:end] + sum_of(data[:end], short=True).encode(), end)
            self.assert_bad(data[:end] + b"\n" + data[end:], end)
            self.assert_bad(data[:end] + b" " + data[end:], end)

    def test_bytes_behind_the_sum(self):
        for things in ([], by_id(THINGS)):
            data = packed(things)
            for more in (b"\n", b"x", b"\xff", data):
                self.assert_bad(data + more, len(data))

    def test_packs_that_are_cut_off_anywhere(self):
        things = by_id(THINGS)
        data = packed(things)
        starts = []
        for at in range(len(things)):
            place = self.place_of(things, at)
            starts.append((place, data.index(b"\n", place) + 1))
        for end in range(len(data)):
            wanted = 0
            for at, (place, begin) in enumerate(starts):
                if end >= (begin if at else place):
                    wanted = begin if end >= begin else place
                behind = begin + len(encode(things[at]))
                if end >= behind:
                    wanted = behind
            self.assert_bad(data[:end], wanted)

    def test_the_first_fault_counts(self):
        things = by_id(THINGS)
        data = packed(things)
        place = self.place_of(things, 3)
        broken = data[:place] + b"x" + data[place + 1:]
        self.assert_bad(broken + b"x", place)
        self.assert_bad(b"x" + broken[1:], 0)
        self.assert_bad(data[:-16] + ZERO.encode() + b"x", len(data) - 16)

    def test_any_byte_that_is_changed(self):
        data = packed(by_id(THINGS[3:8]))
        numbers = chance(6)
        for at in range(len(data)):
            other = bytes([(data[at] + 1 + next(numbers) % 255) % 256])
            with self.assertRaises(BadPack) as caught:
                unpack(data[:at] + other + data[at + 1:])
            self.assertTrue(0 <= caught.exception.at <= len(data) - 16)


if __name__ == "__main__":
    unittest.main()
