"""[2.1] The four kinds of objects."""

import unittest

from forkhaul.errors import BadName
from forkhaul.objects import Blob, Commit, Tag, Tree
from forkhaul.store import Store
from tests.helpers import MOST, ONE, TWO, ZERO, Case, odd_things

NO_IDS = ["", ONE[1:], ONE + "1", "A" * 16, "g" * 16, ONE[1:] + "\n", ONE + "\n", ONE.encode(), int(ONE)]
NO_SEGMENTS = ["", ".", "..", "a..b", "a/b", "A", "a" * 13, "a b", "a\n", "/", "\u00e9", b"a", 1, None, ("a",)]
NO_MESSAGES = ["a" * 201, "\t", "a\r\n", "\u00e9", "\x7f", "\x00", b"", b"a", None, 0, True, [], {}, ("a",), ["a"]]


def entries(many):
    return {f"f{number:02d}": ("file", ONE) for number in range(many)}


class Blobs(Case):
    def test_text(self):
        for text in ("", "a", "two\nlines\n", "a" * 2000, " ~"):
            self.assertEqual(Blob(text).text, text)
            self.assertEqual(Blob(text=text).text, text)

    def test_wrong_texts(self):
        for text in ["a" * 2001, "\t", "a\rb", "\u00e9", "\x7f", "\x00", "\ud800"]:
            self.assert_error(BadName, Blob, text)
        for thing in odd_things():
            if not isinstance(thing, str):
                self.assert_error(BadName, Blob, thing)


class Trees(Case):
    def test_entries_ascend(self):
        rows = {"b": ("file", ONE), "a": ("dir", TWO), "a-": ("exec", ZERO), "0": ("file", ONE), "_": ("dir", ONE)}
        shown = Tree(rows).entries
        self.assertEqual(shown, rows)
        self.assertIs(type(shown), dict)
        self.assertEqual(list(shown), ["0", "_", "a", "a-", "b"])
        self.assertEqual(list(Tree(entries=rows).entries), ["0", "_", "a", "a-", "b"])
        self.assertEqual(list(rows), ["b", "a", "a-", "0", "_"])
        for value in shown.values():
            self.assertIs(type(value), tuple)

    def test_sizes(self):
        self.assertEqual(Tree({}).entries, {})
        self.assertEqual(len(Tree(entries(30)).entries), 30)
        self.assert_error(BadName, Tree, entries(31))
        self.assert_error(BadName, Tree, entries(100))

    def test_changes_of_argument_and_result_have_no_effect(self):
        rows = {"b": ("file", ONE)}
        tree = Tree(rows)
        rows["a"] = ("file", ONE)
        rows["b"] = ("file", TWO)
        self.assertEqual(tree.entries, {"b": ("file", ONE)})
        shown = tree.entries
        shown["c"] = ("file", ONE)
        del shown["b"]
        self.assertEqual(tree.entries, {"b": ("file", ONE)})
        self.assertIsNot(tree.entries, tree.entries)
        self.assertEqual(tree, Tree({"b": ("file", ONE)}))

    def test_segments(self):
        for segment in ("a", ".a", "a.b", "-", "_", "a" * 12, "0"):
            self.assertEqual(Tree({segment: ("file", ONE)}).entries, {segment: ("file", ONE)})
        for segment in NO_SEGMENTS:
            self.assert_error(BadName, Tree, {segment: ("file", ONE)})
            self.assert_error(BadName, Tree, {"a": ("file", ONE), segment: ("file", ONE)})

    def test_wrong_values(self):
        wrong = [("file",), ("file", ONE, ONE), ["file", ONE], ("File", ONE), ("link", ONE), ("", ONE), (None, ONE),
                 (ONE, "file"), ("file", None), ([], ONE), ("file", []), (("file",), ONE), (b"file", ONE), (1, ONE),
                 ("files", ONE), ("fil", ONE), ("dir/", ONE), "ab", ("file\n", ONE), {"file": ONE}]
        for value in wrong + [("dir", name) for name in NO_IDS] + odd_things():
            self.assert_error(BadName, Tree, {"a": value})
            self.assert_error(BadName, Tree, {"0": ("file", ONE), "a": value})

    def test_what_is_no_dict(self):
        for thing in [*odd_things(), [("a", ("file", ONE))], (("a", ("file", ONE)),), "a", {"a"}]:
            if thing != {}:
                self.assert_error(BadName, Tree, thing)


class Commits(Case):
    def test_fields(self):
        made = Commit(ONE, (TWO, ZERO), author="ann", time=5, message="a\nb")
        self.assertEqual((made.tree, made.parents, made.author, made.time, made.message),
                         (ONE, (TWO, ZERO), "ann", 5, "a\nb"))
        named = Commit(message="a\nb", time=5, author="ann", parents=(TWO, ZERO), tree=ONE)
        self.assertEqual(named, made)

    def test_defaults(self):
        made = Commit(ONE, author="bob", time=0)
        self.assertEqual((made.tree, made.parents, made.author, made.time, made.message), (ONE, (), "bob", 0, ""))

    def test_by_name_only(self):
        self.assertRaises(TypeError, Commit, ONE, (), "ann", 1)
        self.assertRaises(TypeError, Commit, ONE, (), author="ann")
        self.assertRaises(TypeError, Commit, ONE, (), time=1)

    def test_parents(self):
        six = tuple([f"{number:016x}" for number in range(6)])
        self.assertEqual(Commit(ONE, six[::-1], author="ann", time=1).parents, six[::-1])
        wrong = [(*six, ONE), (ONE, ONE), (ONE, TWO, ONE), [ONE], ONE, {ONE}, {ONE: 1}, None, 0, (None,), ([],), ((),),
                 (ONE, 1), iter((ONE,))] + [(name,) for name in NO_IDS] + [(ONE, name) for name in NO_IDS]
        for parents in wrong:
            self.assert_error(BadName, lambda: Commit(ONE, parents, author="ann", time=1))

    def test_wrong_arguments(self):
        for name in NO_IDS + odd_things():
            self.assert_error(BadName, lambda: Commit(name, author="ann", time=1))
        for author in ["", "Ann", "a" * 13, "a1", "a b", "ann\n", b"ann", None, 1, [], {}, ("ann",)]:
            self.assert_error(BadName, lambda: Commit(ONE, author=author, time=1))
        for time in [-1, 10 ** 12 + 1, True, False, 1.0, "1", None, [], {}, (1,)]:
            self.assert_error(BadName, lambda: Commit(ONE, author="ann", time=time))
        for message in NO_MESSAGES:
            self.assert_error(BadName, lambda: Commit(ONE, author="ann", time=1, message=message))

    def test_messages(self):
        for message in ("", "a" * 200, "\n" * 200, "a\nb"):
            self.assertEqual(Commit(ONE, author="ann", time=1, message=message).message, message)

    def test_odd_arguments(self):
        for thing in odd_things():
            if thing != ():
                self.assert_error(BadName, lambda: Commit(ONE, thing, author="ann", time=1))
            self.assert_error(BadName, lambda: Commit(ONE, author=thing, time=1))
            if not isinstance(thing, int) or isinstance(thing, bool):
                self.assert_error(BadName, lambda: Commit(ONE, author="ann", time=thing))
            if not isinstance(thing, str):
                self.assert_error(BadName, lambda: Commit(ONE, author="ann", time=1, message=thing))


class Tags(Case):
    def test_fields(self):
        made = Tag(ONE, label="v1.0", message="a\nb")
        self.assertEqual((made.target, made.label, made.message), (ONE, "v1.0", "a\nb"))
        self.assertEqual(Tag(target=ONE, label="v").message, "")
        self.assertRaises(TypeError, Tag, ONE, "v1")
        self.assertRaises(TypeError, Tag, ONE)

    def test_wrong_arguments(self):
        for name in NO_IDS + odd_things():
            self.assert_error(BadName, lambda: Tag(name, label="v1"))
        for label in NO_SEGMENTS + odd_things():
            if label != "A":
                self.assert_error(BadName, lambda: Tag(ONE, label=label))
        self.assert_error(BadName, lambda: Tag(ONE, label="A"))
        for message in NO_MESSAGES:
            self.assert_error(BadName, lambda: Tag(ONE, label="v1", message=message))
        self.assertEqual(Tag(ONE, label="a" * 12, message="b" * 200).message, "b" * 200)


class Values(Case):
    def different(self):
        """Objects of which no two are equal."""
        return [
            Blob(""), Blob("a"), Tree({}), Tree({"a": ("file", ONE)}), Tree({"a": ("exec", ONE)}),
            Tree({"a": ("file", TWO)}), Tree({"b": ("file", ONE)}), Tree({"a": ("file", ONE), "b": ("file", ONE)}),
            Commit(ONE, author="ann", time=1), Commit(TWO, author="ann", time=1),
            Commit(ONE, (TWO,), author="ann", time=1), Commit(ONE, (TWO, MOST), author="ann", time=1),
            Commit(ONE, (MOST, TWO), author="ann", time=1), Commit(ONE, author="bob", time=1),
            Commit(ONE, author="ann", time=2), Commit(ONE, author="ann", time=1, message="x"),
            Tag(ONE, label="a"), Tag(TWO, label="a"), Tag(ONE, label="b"), Tag(ONE, label="a", message="x"),
        ]

    def test_equality(self):
        ones = self.different()
        others = self.different()
        for at, one in enumerate(ones):
            for beside, other in enumerate(others):
                self.assertIs(one == other, at == beside, (at, beside))
                self.assertIs(one != other, at != beside, (at, beside))

    def test_order_of_entries_means_nothing(self):
        self.assertEqual(Tree({"a": ("file", ONE), "b": ("dir", TWO)}), Tree({"b": ("dir", TWO), "a": ("file", ONE)}))

    def test_they_equal_nothing_else(self):
        others = [thing for thing in odd_things() if not isinstance(thing, (Blob, Tree, Commit, Tag))]
        for made in self.different():
            for thing in [*others, "a", {"a": ("file", ONE)}, (ONE,), ONE, Store()]:
                self.assertIs(made == thing, False)
                self.assertIs(thing == made, False)
                self.assertIs(made != thing, True)

    def test_fields_are_read_only(self):
        rows = [(Blob("a"), ("text",)), (Tree({}), ("entries",)),
                (Commit(ONE, (TWO,), author="ann", time=1, message="m"),
                 ("tree", "parents", "author", "time", "message")),
                (Tag(ONE, label="v"), ("target", "label", "message"))]
        for made, fields in rows:
            for field in fields:
                before = getattr(made, field)
                with self.assertRaises(AttributeError):
                    setattr(made, field, before)
                with self.assertRaises(AttributeError):
                    delattr(made, field)
                self.assertEqual(getattr(made, field), before)


if __name__ == "__main__":
    unittest.main()
