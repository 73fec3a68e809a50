"""[3.3] Files and trees."""

import unittest

from forkhaul.codes import id_of
from forkhaul.errors import BadName, BadObject, BadPath, NoObject
from forkhaul.objects import Blob, Commit, Tag, Tree
from forkhaul.store import Store
from tests.helpers import MOST, ONE, TWO, ZERO, Case, chance, odd_things

FILE = ("file", ONE)
EXEC = ("exec", TWO)


class Putting(Case):
    def trees(self, store):
        return [store[name] for name in store.ids()]

    def test_no_files_give_the_empty_tree(self):
        store = Store()
        self.assertEqual(store.put_files({}), id_of(Tree({})))
        self.assertEqual(self.trees(store), [Tree({})])
        self.assertEqual(store.files_of(id_of(Tree({}))), {})

    def test_the_trees(self):
        store = Store()
        root = store.put_files(files={"a": FILE, "b/c": EXEC, "b/d/e": FILE})
        deep = Tree({"e": FILE})
        middle = Tree({"c": EXEC, "d": ("dir", id_of(deep))})
        self.assertEqual(store[root], Tree({"a": FILE, "b": ("dir", id_of(middle))}))
        self.assertEqual(store[id_of(middle)], middle)
        self.assertEqual(store[id_of(deep)], deep)
        self.assertEqual(len(store), 3)

    def test_equal_trees_are_put_once(self):
        store = Store()
        store.put_files({"a/x": FILE, "b/x": FILE, "c/a/x": FILE})
        self.assertEqual(len(store), 3)

    def test_the_order_of_the_keys_means_nothing(self):
        rows = [("b/d/e", FILE), ("a", FILE), ("b/c", EXEC), ("a-b/x", FILE), ("a.b", EXEC)]
        names = {Store().put_files(dict(rows[at:] + rows[:at])) for at in range(5)}
        names.add(Store().put_files(dict(rows[::-1])))
        self.assertEqual(len(names), 1)

    def test_different_files_have_different_ids(self):
        files = [{}, {"a": FILE}, {"a": ("exec", ONE)}, {"a": ("file", TWO)}, {"b": FILE}, {"a/b": FILE},
                 {"a/a": FILE}, {"a": FILE, "b": FILE}]
        self.assertEqual(len({Store().put_files(one) for one in files}), len(files))

    def test_there_and_back(self):
        store = Store()
        files = {"z": FILE, "a": EXEC, "a-b": FILE, "a.b/c": FILE, "b/a": EXEC, "b/a-b": FILE, "b/a.c/d": EXEC,
                 "c/c/c/c/c/c": FILE, "abcdefghijkl/abcdefghijkl": FILE}
        root = store.put_files(files)
        self.assertEqual(store.files_of(root), files)
        self.assertEqual(list(store.files_of(name=root)), sorted(files))
        self.assertEqual(store.put_files(store.files_of(root)), root)

    def test_ascending_also_in_front_of_a_slash(self):
        store = Store()
        files = {"a/b": FILE, "a-b": FILE, "a.b": FILE, "a0": FILE, "a_": FILE, "a-/b": FILE, "a0x/b": FILE}
        self.assertEqual(list(store.files_of(store.put_files(files))), sorted(files))
        self.assertEqual(list(store.files_of(store.put_files({"a/b": FILE, "a-b": FILE}))), ["a-b", "a/b"])

    def test_no_tree_below_the_root_is_empty(self):
        numbers = chance(11)
        for _ in range(40):
            store = Store()
            files = {f"{'abc'[next(numbers) % 3]}/{'xyz'[next(numbers) % 3]}/f": FILE for _ in range(4)}
            root = store.put_files(files)
            self.assertTrue(all([store[name].entries for name in store.ids()]))
            self.assertEqual(store.files_of(root), files)

    def test_arguments_and_results_belong_to_the_caller(self):
        store = Store()
        files = {"a": FILE, "b/c": EXEC}
        root = store.put_files(files)
        self.assertEqual(files, {"a": FILE, "b/c": EXEC})
        files["x"] = FILE
        shown = store.files_of(root)
        shown["y"] = FILE
        del shown["a"]
        self.assertEqual(store.files_of(root), {"a": FILE, "b/c": EXEC})

    def test_ids_need_not_be_there(self):
        store = Store()
        self.assertEqual(store.files_of(store.put_files({"a": ("file", MOST)})), {"a": ("file", MOST)})
        self.assertFalse(MOST in store)

    def test_thirty_entries(self):
        store = Store()
        thirty = {f"f{number}": FILE for number in range(30)}
        self.assertEqual(store.files_of(store.put_files(thirty)), thirty)
        below = {f"d/f{number}": FILE for number in range(30)}
        self.assertEqual(store.files_of(store.put_files(below)), below)
        spread = {f"d{number % 30}/f{number}": FILE for number in range(200)}
        self.assertEqual(store.files_of(store.put_files(spread)), spread)

    def test_too_many_entries(self):
        store = Store()
        mixed = {f"d{number}/f": FILE for number in range(16)}
        mixed.update({f"f{number}": FILE for number in range(15)})
        for files in ({f"f{number}": FILE for number in range(31)}, {f"d/f{number}": FILE for number in range(31)},
                      {f"d{number}/f": FILE for number in range(31)}, mixed):
            self.assert_error(BadName, store.put_files, files)
        self.assertEqual(len(store), 0)

    def test_what_is_no_dict(self):
        store = Store()
        for thing in [*odd_things(), "a", [("a", FILE)], (("a", FILE),), {"a"}]:
            if thing != {}:
                self.assert_error(BadPath, store.put_files, thing)
        self.assertEqual(len(store), 0)

    def test_what_is_no_path(self):
        store = Store()
        for path in ("", "/", "a/", "/a", "a//b", ".", "a/..", "A", "a" * 13, "a/b/c/d/e/f/g", "a\n", None, 1, b"a",
                     ("a",), True, 1.5, frozenset()):
            self.assert_error(BadPath, store.put_files, {path: FILE})
            self.assert_error(BadPath, store.put_files, {"a": FILE, path: FILE})
            self.assert_error(BadPath, store.put_files, {"a": 1, path: FILE})
        self.assertEqual(len(store), 0)

    def test_paths_above_one_another(self):
        store = Store()
        for one, other in (("a", "a/b"), ("a", "a/b/c"), ("a/b", "a/b/c"), ("a/b", "a/b/c/d/e/f"), ("a/b/c/d/e",
                           "a/b/c/d/e/f")):
            for files in ({one: FILE, other: FILE}, {other: FILE, one: FILE}):
                self.assert_error(BadPath, store.put_files, files)
                # These stand between the two in ascending order, so that the two are no neighbours.
                between = {one + "-x": FILE, one + ".": FILE, one + ".x": FILE, one + "--": EXEC}
                self.assert_error(BadPath, store.put_files, {**between, **files})
                self.assert_error(BadPath, store.put_files, {**files, **between})
        self.assertEqual(len(store), 0)
        for files in ({"a": FILE, "ab/c": FILE}, {"a": FILE, "a-/b": FILE}, {"a/b": FILE, "a/bc/d": FILE},
                      {"a": FILE, "b/a/c": FILE}):
            self.assertEqual(store.files_of(store.put_files(files)), files)

    def test_wrong_values(self):
        store = Store()
        wrong = [("dir", ONE), ("file",), ("file", ONE, ONE), ["file", ONE], ("File", ONE), (None, ONE), (ONE, "file"),
                 ("file", ONE[1:]), ("file", None), ([], ONE), ("file", []), ("", ONE), ({}, {}), ("files", ONE)]
        for value in wrong + odd_things():
            self.assert_error(BadName, store.put_files, {"a": value})
            self.assert_error(BadName, store.put_files, {"a": FILE, "b/c": value})
        self.assertEqual(len(store), 0)

    def test_wrong_paths_come_first(self):
        store = Store()
        self.assert_error(BadPath, store.put_files, {"a": None, "b": FILE, "b/c": FILE})
        self.assert_error(BadPath, store.put_files, {"b/c": None, "b": None})
        self.assert_error(BadPath, store.put_files, {"a": None, "A": None})
        many = {f"f{number}": FILE for number in range(31)}
        self.assert_error(BadPath, store.put_files, {**many, "A": FILE})
        self.assert_error(BadPath, store.put_files, {**many, "f1/x": FILE})
        self.assert_error(BadName, store.put_files, {**many, "a": None})
        self.assertEqual(len(store), 0)


class Reading(Case):
    def test_what_is_absent(self):
        store = Store()
        store.put(Blob("a"))
        for thing in [*odd_things(), ONE]:
            self.assert_error(NoObject, store.files_of, thing, name=thing)

    def test_what_is_no_tree(self):
        store = Store()
        blob = store.put(Blob("a"))
        commit = store.put(Commit(store.put_files({"a": FILE}), author="ann", time=1))
        tag = store.put(Tag(store.put_files({}), label="v1"))
        for name in (blob, commit, tag):
            self.assert_error(BadObject, store.files_of, name, at=0)
            tree = store.put(Tree({"d": ("dir", name), "a": FILE}))
            self.assert_error(BadObject, store.files_of, tree, at=0)
            self.assert_error(BadObject, store.files_of, store.put(Tree({"x": ("dir", tree)})), at=0)

    def test_files_need_not_be_blobs(self):
        store = Store()
        tree = store.put_files({})
        files = {"a": ("file", tree), "b": ("exec", MOST)}
        self.assertEqual(store.files_of(store.put(Tree(files))), files)

    def test_empty_trees_have_no_files(self):
        store = Store()
        empty = store.put(Tree({}))
        hollow = store.put(Tree({"a": ("dir", empty), "b": ("dir", empty)}))
        self.assertEqual(store.files_of(hollow), {})
        mixed = store.put(Tree({"x": FILE, "h": ("dir", hollow), "e": ("dir", empty)}))
        self.assertEqual(store.files_of(mixed), {"x": FILE})
        self.assertEqual(store.files_of(store.put(Tree({"m": ("dir", mixed)}))), {"m/x": FILE})

    def test_one_tree_at_several_paths(self):
        store = Store()
        inner = store.put(Tree({"x": FILE, "y": EXEC}))
        root = store.put(Tree({"b": ("dir", inner), "a": ("dir", inner), "c": EXEC}))
        shown = store.files_of(root)
        self.assertEqual(shown, {"a/x": FILE, "a/y": EXEC, "b/x": FILE, "b/y": EXEC, "c": EXEC})
        self.assertEqual(list(shown), sorted(shown))

    def test_the_least_absent_tree(self):
        store = Store()
        tree = store.put(Tree({"a": ("dir", MOST), "b": ("dir", TWO), "c": ("file", ZERO), "d": ("dir", TWO)}))
        self.assert_error(NoObject, store.files_of, tree, name=TWO)
        above = store.put(Tree({"x": ("dir", tree), "y": ("dir", ONE), "z": ("exec", ZERO)}))
        self.assert_error(NoObject, store.files_of, above, name=ONE)

    def test_absent_trees_go_ahead_of_wrong_ones(self):
        store = Store()
        blob = store.put(Blob("a"))
        tree = store.put(Tree({"a": ("dir", blob), "b": ("dir", MOST)}))
        self.assert_error(NoObject, store.files_of, tree, name=MOST)
        tree = store.put(Tree({"a": ("dir", MOST), "b": ("dir", blob)}))
        self.assert_error(NoObject, store.files_of, tree, name=MOST)
        lost = store.put(Commit(TWO, (ONE,), author="ann", time=1))
        tree = store.put(Tree({"a": ("dir", lost)}))
        self.assert_error(BadObject, store.files_of, tree, at=0)

    def test_a_ladder_of_empty_trees(self):
        store = Store()
        name = store.put(Tree({}))
        for _ in range(150):
            name = store.put(Tree({"a": ("dir", name), "b": ("dir", name), "c": ("dir", name)}))
        self.assertEqual(store.files_of(name), {})
        self.assertEqual(store.files_of(store.put(Tree({"a": ("dir", name), "b": FILE}))), {"b": FILE})

    def test_mixed_files(self):
        numbers = chance(7)
        segments = ("a", "b", "a-", "a.", "c_")
        for _ in range(80):
            files = {}
            for _ in range(next(numbers) % 12):
                path = "/".join([segments[next(numbers) % 5] for _ in range(1 + next(numbers) % 4)])
                above = any([path.startswith(one + "/") or one.startswith(path + "/") for one in files])
                if not above:
                    files[path] = (("file", "exec")[next(numbers) % 2], (ONE, TWO)[next(numbers) % 2])
            store = Store()
            root = store.put_files(files)
            self.assertEqual(store.files_of(root), files)
            self.assertEqual(list(store.files_of(root)), sorted(files))
            self.assertEqual(Store().put_files({path: files[path] for path in sorted(files, reverse=True)}), root)


if __name__ == "__main__":
    unittest.main()
