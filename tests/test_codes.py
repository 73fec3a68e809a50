"""[2.2] Canonical bytes and [2.3] sums and ids."""

import unittest

from forkhaul.codes import decode, encode, id_of, sum_of
from forkhaul.errors import BadName, BadObject
from forkhaul.objects import Blob, Commit, Tag, Tree
from tests.helpers import MOST, ONE, TWO, ZERO, Case, chance, odd_things

LONG = 2 ** 61 - 1
SIX = tuple([f"{number:016x}" for number in range(6)])
TREE_LINE = b"tree " + ONE.encode() + b"\n"
PARENT = b"parent " + TWO.encode() + b"\n"
OTHER_PARENT = b"parent " + ZERO.encode() + b"\n"


def pairs():
    """Objects and their canonical bytes."""
    one, two, zero = ONE.encode(), TWO.encode(), ZERO.encode()
    return [
        (Blob(""), b"blob\n"),
        (Blob("a"), b"blob\na"),
        (Blob("a\n\nb\n"), b"blob\na\n\nb\n"),
        (Blob("blob\n"), b"blob\nblob\n"),
        (Tree({}), b"tree\n"),
        (Tree({"b": ("file", ONE), "a": ("dir", TWO), "a-b": ("exec", ZERO)}),
         b"tree\ndir a " + two + b"\nexec a-b " + zero + b"\nfile b " + one + b"\n"),
        (Commit(ONE, author="ann", time=0),
         b"commit\ntree " + one + b"\nauthor ann\ntime 0\n\n"),
        (Commit(ONE, (TWO, ZERO), author="ann", time=10 ** 12, message="a\n\nb"),
         b"commit\ntree " + one + b"\nparent " + two + b"\nparent " + zero
         + b"\nauthor ann\ntime 1000000000000\n\na\n\nb"),
        (Commit(ONE, SIX, author="z", time=70, message="\n"),
         b"commit\ntree " + one + b"\n" + b"".join([b"parent " + name.encode() + b"\n" for name in SIX])
         + b"author z\ntime 70\n\n\n"),
        (Tag(ONE, label="v1.0"), b"tag\ntarget " + one + b"\nlabel v1.0\n\n"),
        (Tag(ONE, label=".a", message="x\ny"), b"tag\ntarget " + one + b"\nlabel .a\n\nx\ny"),
    ]


class Encoding(Case):
    def test_bytes_of_each_kind(self):
        for thing, data in pairs():
            self.assertEqual(encode(thing), data)
            self.assertIs(type(encode(thing=thing)), bytes)

    def test_entries_ascend_by_segments_alone(self):
        kinds = {"a.b": "dir", "a": "file", "_": "exec", "a-": "dir", "0": "file"}
        tree = Tree({segment: (kinds[segment], ONE) for segment in kinds})
        lines = encode(tree).split(b"\n")[1:-1]
        self.assertEqual([line.split(b" ")[1] for line in lines], [b"0", b"_", b"a", b"a-", b"a.b"])

    def test_other_things(self):
        for thing in odd_things():
            if not isinstance(thing, (Blob, Tree, Commit, Tag)):
                self.assert_error(BadName, encode, thing)
                self.assert_error(BadName, id_of, thing)


class Decoding(Case):
    def wrong(self, data, at):
        self.assert_error(BadObject, decode, data, at=at)

    def test_there_and_back(self):
        for thing, data in pairs():
            self.assertEqual(decode(data), thing)
            self.assertEqual(decode(data=data), thing)
            self.assertEqual(encode(decode(data)), data)
        self.assertEqual(list(decode(pairs()[5][1]).entries), ["a", "a-b", "b"])

    def test_what_is_no_bytes(self):
        for thing in [*odd_things(), "blob\n", bytearray(b"blob\na"), memoryview(b"blob\na"), ["blob"]]:
            if not isinstance(thing, bytes):
                self.wrong(thing, 0)

    def test_first_lines(self):
        for data in (b"", b"\n", b"blob", b"tree", b"commit", b"tag", b"Blob\n", b"blobs\n", b"blob \n", b" blob\n",
                     b"\nblob\n", b"blob\r\n", b"blo\n", b"\xff\n", b"x", b"tree\r\n", b"tag\t\n", b"blob\x00\n"):
            self.wrong(data, 0)

    def test_cut_off_at_each_byte(self):
        for thing, data in pairs():
            if isinstance(thing, (Commit, Tag)):
                text = data.index(b"\n\n") + 2
            else:
                text = len(data) if isinstance(thing, Tree) else 5
            for size in range(text):
                line = data[:size].rfind(b"\n") + 1
                if isinstance(thing, Tree) and line == size and size > 0:
                    self.assertEqual(encode(decode(data[:size])), data[:size])
                else:
                    self.wrong(data[:size], line)
            for size in range(text, len(data)):
                self.assertEqual(encode(decode(data[:size])), data[:size])

    def test_blob_texts(self):
        self.assertEqual(decode(b"blob\n" + b"a" * 2000), Blob("a" * 2000))
        for text in (b"a" * 2001, b"a\tb", b"\r\n", b"\xff", b"a\x7f", b"ab\x80", b"\x00", b"\xc3\xa9"):
            self.wrong(b"blob\n" + text, 5)

    def test_tree_lines(self):
        good = b"file b " + ONE.encode() + b"\n"
        one = b" " + ONE.encode() + b"\n"
        for line in (b"file b", b"file b \n", b"file  b" + one, b"file b " + one, b"file b" + one[:-2] + b"\n",
                     b"file b" + one[:-1] + b" \n", b"file b" + one[:-1] + b"1\n", b"link b" + one, b"File b" + one,
                     b"blob b" + one, b" b" + one, b"b" + one, b"file" + one, b"file B" + one, b"file a..b" + one,
                     b"file ." + one, b"file a/b" + one, b"file " + b"a" * 13 + one, b"\n", b" " + good,
                     b"file b\xff" + one, b"\xff" + good, b"file b " + b"A" * 16 + b"\n", b"file b" + one[:-1],
                     b"file b" + one[:-1] + b"\r\n", b"file\tb" + one, b"tree\n", b"file b x" + one, b"dir\nb" + one,
                     b"file b " + b"g" * 16 + b"\n", b"file b " + b"\xc3" * 16 + b"\n"):
            self.wrong(b"tree\n" + line, 5)
            first = b"file a" + one
            self.wrong(b"tree\n" + first + line, 5 + len(first))
            self.wrong(b"tree\n" + first + line + b"file c" + one, 5 + len(first))

    def test_tree_order(self):
        one = b" " + ONE.encode() + b"\n"
        a, b, c = b"file a" + one, b"dir b" + one, b"exec c" + one
        self.assertEqual(list(decode(b"tree\n" + a + b + c).entries), ["a", "b", "c"])
        self.wrong(b"tree\n" + b + a, 5 + len(b))
        self.wrong(b"tree\n" + a + c + b, 5 + len(a + c))
        self.wrong(b"tree\n" + a + a, 5 + len(a))
        self.wrong(b"tree\n" + a + b"dir a " + TWO.encode() + b"\n", 5 + len(a))
        self.wrong(b"tree\n" + a + b + c + b, 5 + len(a + b + c))
        self.wrong(b"tree\n" + a + b"file a-" + one + b"file _" + one, 5 + len(a + b"file a-" + one))

    def test_tree_sizes(self):
        lines = [b"file f%02d " % number + ONE.encode() + b"\n" for number in range(33)]
        self.assertEqual(len(decode(b"tree\n" + b"".join(lines[:30])).entries), 30)
        for many in (31, 32, 33):
            self.wrong(b"tree\n" + b"".join(lines[:many]), 5 + sum([len(line) for line in lines[:30]]))

    def commit_lines(self):
        return [b"commit\n", TREE_LINE, PARENT, OTHER_PARENT, b"author ann\n", b"time 7\n", b"\n"]

    def tag_lines(self):
        return [b"tag\n", b"target " + ONE.encode() + b"\n", b"label v1\n", b"\n"]

    def test_each_line_absent(self):
        lines = self.commit_lines()
        for at in (1, 4, 5):
            self.wrong(b"".join(lines[:at] + lines[at + 1:]), len(b"".join(lines[:at])))
        self.wrong(b"".join(lines[:6]), len(b"".join(lines[:6])))
        self.wrong(b"".join(lines[:6]) + b"text", len(b"".join(lines[:6])))
        self.wrong(b"".join(lines[:6]) + b"text\n\n", len(b"".join(lines[:6])))
        self.assertEqual(decode(b"".join(lines[:3] + lines[4:])).parents, (TWO,))
        self.assertEqual(decode(b"".join(lines[:2] + lines[4:])).parents, ())
        lines = self.tag_lines()
        for at in (1, 2):
            self.wrong(b"".join(lines[:at] + lines[at + 1:]), len(b"".join(lines[:at])))
        self.wrong(b"".join(lines[:3]), len(b"".join(lines[:3])))
        self.wrong(b"".join(lines[:3]) + b"text\n", len(b"".join(lines[:3])))

    def test_each_line_repeated(self):
        for lines in (self.commit_lines(), self.tag_lines()):
            for at in range(1, len(lines) - 1):
                self.wrong(b"".join(lines[:at + 1] + lines[at:]), len(b"".join(lines[:at + 1])))
        self.assertEqual(decode(b"".join(self.tag_lines()) + b"\n").message, "\n")

    def test_each_line_out_of_order(self):
        for lines in (self.commit_lines(), self.tag_lines()):
            for at in range(1, len(lines) - 1):
                mixed = lines[:at] + [lines[at + 1], lines[at]] + lines[at + 2:]
                if lines[at].startswith(b"parent") and lines[at + 1].startswith(b"parent"):
                    self.assertEqual(decode(b"".join(mixed)).parents, (ZERO, TWO))
                else:
                    # An author may stand behind one parent alone, so the second parent is what is out of order.
                    wrong = at + 1 if lines[at].startswith(b"parent") else at
                    self.wrong(b"".join(mixed), len(b"".join(mixed[:wrong])))

    def test_wrong_lines_of_commits(self):
        lines = self.commit_lines()
        one = ONE.encode()
        rows = [(1, [b"tree \n", b"tree\n", b"tree  " + one + b"\n", b"tree " + one + b" \n", b" tree " + one + b"\n",
                     b"tree " + one[1:] + b"\n", b"tree " + one + b"1\n", b"Tree " + one + b"\n", b"\n",
                     b"tree " + b"A" * 16 + b"\n", b"tree " + one + b"\r\n", b"tree\t" + one + b"\n",
                     b"tree " + one[1:] + b"\xff\n", b"tre " + one + b"\n", b"trees " + one + b"\n"]),
                (2, [b"parent \n", b"parent\n", b"parent  " + one + b"\n", b"parent " + one + b" \n",
                     b"parent " + one[1:] + b"\n", b"parent " + b"G" * 16 + b"\n", b"parents " + one + b"\n",
                     b"parent " + one + b"\r\n", b"Parent " + one + b"\n", b"parent " + one + b"\xff\n"]),
                (4, [b"author \n", b"author\n", b"author Ann\n", b"author a1\n", b"author  ann\n", b"author ann \n",
                     b"author " + b"a" * 13 + b"\n", b"Author ann\n", b"author ann\r\n", b"author a\xff\n",
                     b"author a b\n", b"\n"]),
                (5, [b"time \n", b"time\n", b"time 07\n", b"time 00\n", b"time -1\n", b"time +1\n", b"time  7\n",
                     b"time 7 \n", b"time 1000000000001\n", b"time 9999999999999\n", b"time 10000000000000\n",
                     b"time 0x7\n", b"time 7.0\n", b"time 1_0\n", b"Time 7\n", b"time 7\r\n", b"time \xb2\n",
                     b"time " + b"9" * 5000 + b"\n", b"time " + b"0" * 5000 + b"\n", b"time a\n", b"time -0\n", b"\n",
                     b"time 0000000000007\n"]),
                (6, [b" \n", b"\r\n", b"x\n", b"time 7\n", b"", b"\xff\n"])]
        for at, wrong in rows:
            for line in wrong:
                data = b"".join([*lines[:at], line, *lines[at + 1:]]) + b"text"
                self.wrong(data, len(b"".join(lines[:at])))

    def test_times(self):
        for time in (0, 1, 9, 10, 999999999999, 1000000000000):
            data = b"commit\n" + TREE_LINE + b"author ann\ntime " + str(time).encode() + b"\n\n"
            self.assertEqual(decode(data).time, time)

    def test_parents(self):
        lines = [b"parent " + name.encode() + b"\n" for name in SIX]
        end = b"author ann\ntime 7\n\n"
        front = b"commit\n" + TREE_LINE
        self.assertEqual(decode(front + b"".join(lines) + end).parents, SIX)
        self.wrong(front + b"".join(lines) + PARENT + end, len(front + b"".join(lines)))
        self.wrong(front + b"".join(lines) + lines[0] + end, len(front + b"".join(lines)))
        self.wrong(front + lines[0] + lines[0] + end, len(front + lines[0]))
        self.wrong(front + lines[0] + lines[1] + lines[0] + end, len(front + lines[0] + lines[1]))

    def test_wrong_lines_of_tags(self):
        lines = self.tag_lines()
        one = ONE.encode()
        rows = [(1, [b"target \n", b"target\n", b"target  " + one + b"\n", b"target " + one[1:] + b"\n",
                     b"target " + one + b"1\n", b"Target " + one + b"\n", b"target " + one + b"\r\n", b"\n",
                     b"tree " + one + b"\n", b"target " + b"F" * 16 + b"\n", b"target " + one[1:] + b"\xe9\n"]),
                (2, [b"label \n", b"label\n", b"label .\n", b"label a..b\n", b"label a/b\n", b"label A\n",
                     b"label  v1\n", b"label v1 \n", b"label " + b"a" * 13 + b"\n", b"label v\xff\n", b"\n"]),
                (3, [b" \n", b"\r\n", b"x\n", b""])]
        for at, wrong in rows:
            for line in wrong:
                data = b"".join([*lines[:at], line, *lines[at + 1:]]) + b"text"
                self.wrong(data, len(b"".join(lines[:at])))

    def test_messages(self):
        for lines in (self.commit_lines(), self.tag_lines()):
            front = b"".join(lines)
            self.assertEqual(decode(front + b"m" * 200).message, "m" * 200)
            for text in (b"m" * 201, b"\t", b"a\nb\r\n", b"a\xff", b"\x00", b"abc\x7f", b"m" * 2001):
                self.wrong(front + text, len(front))

    def test_lines_without_a_line_feed(self):
        self.wrong(b"".join(self.commit_lines()[:5]) + b"time 7", len(b"".join(self.commit_lines()[:5])))
        self.wrong(b"commit\n" + TREE_LINE[:-1], 7)
        self.wrong(b"tree\nfile a " + ONE.encode(), 5)

    def test_changed_bytes_never_give_the_same_object(self):
        numbers = chance(5)
        for thing, data in pairs():
            for _ in range(200):
                at = next(numbers) % (len(data) + 1)
                size = next(numbers) % 3
                new = bytes([b"\n 0af~\xff"[next(numbers) % 7] for _ in range(next(numbers) % 3)])
                changed = data[:at] + new + data[at + size:]
                try:
                    decoded = decode(changed)
                except BadObject as error:
                    self.assertTrue(0 <= error.at <= len(changed))
                    self.assertTrue(error.at == 0 or changed[error.at - 1:error.at] == b"\n")
                else:
                    self.assertEqual(encode(decoded), changed)


class Sums(Case):
    def by_hand(self, data, modulus):
        number = 7
        for byte in data:
            number = (number * 1000003 + byte + 1) % modulus
        return f"{number:016x}"

    def test_no_bytes_and_one_byte(self):
        self.assertEqual(sum_of(b""), "0000000000000007")
        self.assertEqual(sum_of(b"", short=True), "0000000000000007")
        self.assertEqual(sum_of(b"\x00"), f"{7000022:016x}")
        self.assertEqual(sum_of(b"a"), f"{7000021 + 98:016x}")
        self.assertEqual(sum_of(b"\xff"), f"{7000021 + 256:016x}")
        self.assertEqual(sum_of(b"a", short=True), f"{(7000021 + 98) % 251:016x}")

    def test_two_bytes(self):
        self.assertEqual(sum_of(b"ab"), f"{(7000119 * 1000003 + 99):016x}")
        self.assertEqual(sum_of(data=b"ab", short=False), f"{(7000119 * 1000003 + 99):016x}")
        self.assertNotEqual(sum_of(b"ab"), sum_of(b"ba"))

    def test_long_and_short(self):
        for data in (b"blob\n", bytes(range(256)), b"x" * 1000, b"\xff" * 500):
            self.assertEqual(sum_of(data), self.by_hand(data, LONG))
            self.assertEqual(sum_of(data, short=True), self.by_hand(data, 251))
            self.assertTrue(int(sum_of(data), 16) < LONG)
            self.assertTrue(int(sum_of(data, short=True), 16) < 251)

    def test_each_length(self):
        numbers = chance(9)
        for many in [*range(80), *range(250, 275), *range(505, 520), 767, 768, 769, 2005, 20000]:
            for data in (bytes([next(numbers) % 256 for _ in range(many)]), b"\x00" * many, b"\xff" * many):
                self.assertEqual(sum_of(data), self.by_hand(data, LONG), many)
                self.assertEqual(sum_of(data, short=True), self.by_hand(data, 251), many)

    def test_by_name_only(self):
        self.assertRaises(TypeError, sum_of, b"", True)
        self.assertRaises(TypeError, id_of, Blob(""), True)

    def test_other_arguments(self):
        for thing in [*odd_things(), "", "abc", 7, None, bytearray(b"a"), [1]]:
            if not isinstance(thing, bytes):
                self.assert_error(BadName, sum_of, thing)
                self.assert_error(BadName, lambda: sum_of(thing, short=True))
                if not isinstance(thing, (Blob, Tree, Commit, Tag)):
                    self.assert_error(BadName, lambda: id_of(thing, short=True))
        self.assert_error(BadName, id_of, b"blob\n")

    def test_ids(self):
        for thing, data in pairs():
            self.assertEqual(id_of(thing), self.by_hand(data, LONG))
            self.assertEqual(id_of(thing=thing, short=True), self.by_hand(data, 251))
        self.assertNotEqual(id_of(Blob("a")), id_of(Blob("b")))
        self.assertEqual(id_of(Blob("a")), id_of(Blob("a")))
        self.assertNotEqual(id_of(Tag(MOST, label="a")), id_of(Tag(ONE, label="a")))


if __name__ == "__main__":
    unittest.main()
