"""[15.3], [15.4] Repositories: what they answer, each command, and each error in its order."""

import unittest

from forkhaul.codes import id_of
from forkhaul.disk import Disk
from forkhaul.errors import (
    BadCommand, BadName, BadObject, BadPath, BadRef, Clash, Conflict, Locked, NoObject, Stale,
)
from forkhaul.merging import merged
from forkhaul.objects import Blob, Commit, Tag, Tree
from forkhaul.refs import Refs
from forkhaul.repo import Repo
from forkhaul.revisions import View, commits_of, revision_of
from forkhaul.store import Store
from tests.helpers import MOST, ONE, TWO, ZERO, no_names, odd_things
from tests.repos import RepoCase, copied, new_repo, snapshot

NO_TIMES = [thing for thing in odd_things() if not (isinstance(thing, int) and not isinstance(thing, bool)
                                                    and 0 <= thing <= 10 ** 12)] + [10 ** 12 + 1, -1]
NO_AUTHORS = [thing for thing in odd_things()] + ["Ann", "ann b", "a" * 13, "a1"]
NO_MESSAGES = [thing for thing in odd_things() if not (isinstance(thing, str) and thing in ("", " ", "\n", "A", "a b", "/", ".."))
               ] + ["a" * 201, "\t"]
NO_WORDS = odd_things() + ["a/b", "A", "a" * 13, "a_b", "HEAD"]
FILES = {"a": ("file", "x")}


def tree_of(texts):
    """The id of the tree of such files, with the objects that belong to it."""
    store = Store()
    files = {path: (kind, store.put(Blob(text))) for path, (kind, text) in texts.items()}
    return store.put_files(files), store


class Opening(RepoCase):
    def test_a_new_repository(self):
        repo = new_repo()
        self.assertEqual(snapshot(repo), {"things": {}, "ticks": {}, "refs": ((), ("ref", "main"), ()), "cuts": (), "holds": {}})
        self.assertEqual((type(repo.stored()), type(repo.references()), type(repo.view())), (Store, Refs, View))

    def test_opening_again(self):
        disk = Disk()
        repo = Repo(disk=disk)
        first = repo.commit(FILES, author="ann", now=5, message="one\ntwo")
        repo.put(Blob("lone"), now=7)
        repo.hold("w", (first, first), now=8)
        repo.commit({"b/c": ("exec", "")}, author="bob", now=9, message=" two ")
        with repo.edit("eve", 10, "  many\nlines\n") as edit:
            edit.point("a/b", first)
            edit.point("x-1", first)
            edit.stand("id", first)
            edit.finish()
        with repo.edit("eve", 11, "") as edit:
            edit.delete("a/b")
            edit.finish()
        shot = snapshot(repo)
        for other in (disk, copied(disk), disk.crashed(1), disk.crashed(2)):
            self.check_same(Repo(other), shot)
        again = Repo(copied(disk))
        again.commit(FILES, author="ann", now=12)
        self.assertNotEqual(snapshot(again), shot)
        self.check_same(repo, shot)
        self.assertEqual(repo.references().log("a/b")[0][4], "  many\nlines\n")

    def test_what_is_given_out_is_a_copy_of_a_moment(self):
        repo = new_repo()
        first = repo.commit(FILES, author="ann", now=5)
        repo.hold("w", (first,), now=5)
        store, refs, cuts, holds, view = repo.stored(), repo.references(), repo.cuts(), repo.holds(), repo.view()
        shot = (store.ids(), refs.state(), cuts, dict(holds), commits_of(view, "HEAD"))
        before = snapshot(repo)
        store.put(Blob("more"))
        store.put_files({})
        with refs.edit("ann", 1, "") as edit:
            edit.point("x", ONE)
            edit.finish()
        refs.expire(100, age=0)
        holds["x"] = ()
        del holds["w"]
        view.store.put(Blob("other"))
        self.check_same(repo, before)
        store, refs, holds, view = repo.stored(), repo.references(), repo.holds(), repo.view()
        repo.commit({"a": ("file", "y")}, author="ann", now=6)
        repo.hold("w", (), now=7)
        self.assertEqual((store.ids(), refs.state(), cuts, holds, commits_of(view, "HEAD")), shot)

    def test_references_have_no_open_edits(self):
        repo = new_repo()
        first = repo.commit(FILES, author="ann", now=5)
        edit = repo.edit("ann", 6, "")
        edit.point("main", first)
        with repo.references().edit("bob", 6, "") as other:
            other.point("main", first)
        with repo.references().edit("bob", 6, "") as other:
            other.point("x", first)
        edit.point("x", first)
        self.assertEqual(repo.references().names(), ("main",))

    def test_view(self):
        repo = new_repo()
        repo.commit(FILES, author="ann", now=5)
        second = repo.commit({"a": ("file", "y")}, author="ann", now=6)
        view = repo.view()
        self.assertEqual(revision_of(view, "HEAD:a"), id_of(Blob("y")))
        self.assertEqual(len(commits_of(view, "main")), 2)
        self.assertEqual(view.history.generation(second), 2)


class Puts(RepoCase):
    def test_put_and_ticks(self):
        repo = new_repo()
        blob = repo.put(Blob("a"), now=5)
        self.assertEqual((blob, repo.tick(blob)), (id_of(Blob("a")), 5))
        self.assertEqual(repo.stored()[blob], Blob("a"))
        for now in (9, 9, 3, 0, 10 ** 12):
            self.assertEqual(repo.put(thing=Blob("a"), now=now), blob)
            self.assertEqual(repo.tick(name=blob), now)
        self.assertEqual(len(repo.stored()), 1)
        tree = repo.put(Tree({"a": ("file", blob)}), now=1)
        commit = repo.put(Commit(tree, author="ann", time=77), now=2)
        tag = repo.put(Tag(commit, label="v1"), now=3)
        other = repo.put(Commit(tree, (commit,), author="ann", time=7), now=4)
        self.assertEqual([repo.tick(name) for name in (blob, tree, commit, tag, other)], [10 ** 12, 1, 2, 3, 4])
        self.assertEqual(repo.references().state(), Refs().state())

    def test_ticks_of_what_is_absent(self):
        repo = new_repo()
        repo.put(Blob("a"), now=5)
        for thing in [*odd_things(), ONE]:
            self.check_error(NoObject, repo, repo.tick, thing, name=thing)

    def test_parts_that_are_absent(self):
        repo = new_repo()
        blob = repo.put(Blob("a"), now=1)
        tree = repo.put(Tree({}), now=1)
        put = lambda thing: repo.put(thing, now=2)
        self.check_error(NoObject, repo, put, Tree({"b": ("file", ONE), "a": ("file", TWO), "0": ("file", blob)}), name=TWO)
        self.check_error(NoObject, repo, put, Commit(ONE, (ZERO,), author="ann", time=1), name=ONE)
        self.check_error(NoObject, repo, put, Commit(tree, (tree, TWO, ONE), author="ann", time=1), name=TWO)
        self.check_error(NoObject, repo, put, Tag(MOST, label="v1"), name=MOST)

    def test_two_objects_with_one_id(self):
        """As [3.1] has it of a store; the two texts were made so that their sums are equal."""
        repo = new_repo()
        one, other = Blob("/. #!%  %& ("), Blob("  (   !0  * ")
        self.assertEqual(id_of(one), id_of(other))
        name = repo.put(one, now=1)
        self.check_error(Clash, repo, lambda: repo.put(other, now=2), name=name)
        self.assertEqual((repo.stored()[name], repo.tick(name)), (one, 1))

    def test_wrong_arguments(self):
        repo = new_repo()
        for thing in odd_things():
            if not isinstance(thing, (Blob, Tree, Commit, Tag)):
                self.check_error(BadName, repo, lambda: repo.put(thing, now=1))
        for now in NO_TIMES:
            self.check_error(BadName, repo, lambda: repo.put(Blob("a"), now=now))
            self.check_error(BadName, repo, lambda: repo.put(Tag(ONE, label="v1"), now=now))


class Commits(RepoCase):
    def test_the_first_commit_and_the_next_ones(self):
        repo = new_repo()
        texts = {"a": ("file", "x"), "d/e/f": ("exec", "y\n"), "d/g": ("file", "x")}
        first = repo.commit(texts, author="ann", now=5, message="one\nmore")
        root, store = tree_of(texts)
        self.assertEqual(repo.stored()[first], Commit(root, author="ann", time=5, message="one\nmore"))
        self.assertEqual(set(repo.stored().ids()), {first, *store.ids()})
        self.assertEqual({repo.tick(name) for name in repo.stored().ids()}, {5})
        self.assertEqual(repo.references().state(), (
            (("main", first),), ("ref", "main"),
            (("HEAD", ((None, first, "ann", 5, "one"),)), ("main", ((None, first, "ann", 5, "one"),)))))
        second = repo.commit(texts={"a": ("file", "x")}, author="bob", now=6)
        self.assertEqual(repo.stored()[second].parents, (first,))
        self.assertEqual(repo.references().log("main")[1:], [(first, second, "bob", 6, "")])
        self.assertEqual(repo.references().log("HEAD")[1:], [(first, second, "bob", 6, "")])
        self.assertEqual((repo.tick(id_of(Blob("x"))), repo.tick(id_of(Blob("y\n"))), repo.tick(first)), (6, 5, 5))
        self.check_whole(repo)

    def test_no_files(self):
        repo = new_repo()
        name = repo.commit({}, author="ann", now=1)
        self.assertEqual(repo.stored()[name].tree, id_of(Tree({})))

    def test_given_parents(self):
        repo = new_repo()
        one = repo.commit(FILES, author="ann", now=1)
        two = repo.commit(FILES, author="ann", now=2, parents=())
        three = repo.commit(FILES, author="ann", now=3, parents=(two, one))
        store = repo.stored()
        self.assertEqual([store[name].parents for name in (one, two, three)], [(), (), (two, one)])
        self.assertEqual(repo.references().at_head(), three)
        self.assertEqual(len(repo.references().log("main")), 3)

    def test_head_at_references_and_ids(self):
        repo = new_repo()
        one = repo.commit(FILES, author="ann", now=1)
        with repo.edit("ann", 2, "") as edit:
            edit.stand("ref", "side/x")
            edit.finish()
        self.assertIsNone(repo.references().at_head())
        two = repo.commit(FILES, author="ann", now=3)
        refs = repo.references()
        self.assertEqual((repo.stored()[two].parents, refs["side/x"], refs["main"]), ((), two, one))
        with repo.edit("ann", 4, "") as edit:
            edit.stand("id", one)
            edit.finish()
        three = repo.commit(FILES, author="ann", now=5, message="m\nn")
        refs = repo.references()
        self.assertEqual((repo.stored()[three].parents, refs.head()), ((one,), ("id", three)))
        self.assertEqual((refs["side/x"], refs["main"], len(refs)), (two, one, 2))
        self.assertEqual(refs.log("HEAD")[-1], (one, three, "ann", 5, "m"))

    def test_the_same_commit_again(self):
        repo = new_repo()
        one = repo.commit(FILES, author="ann", now=1, parents=())
        repo.put(Blob("x"), now=9)
        refs = repo.references().state()
        self.assertEqual(repo.commit(FILES, author="ann", now=1, parents=()), one)
        self.assertEqual((repo.references().state(), repo.tick(id_of(Blob("x")))), (refs, 1))

    def test_the_order_of_the_keys_means_nothing(self):
        texts = {"b": ("file", "1"), "a/x": ("file", "2"), "a/y": ("exec", "3")}
        one, other = Disk(), Disk()
        Repo(one).commit(texts, author="ann", now=1)
        Repo(other).commit(dict(reversed(list(texts.items()))), author="ann", now=1)
        self.check_same(Repo(one), snapshot(Repo(other)))
        self.assertEqual(texts, {"b": ("file", "1"), "a/x": ("file", "2"), "a/y": ("exec", "3")})

    def test_wrong_texts(self):
        repo = new_repo()
        commit = lambda texts: repo.commit(texts, author=None, now=None, message=None, parents=None)
        for thing in odd_things():
            if not isinstance(thing, dict):
                self.check_error(BadPath, repo, commit, thing)
            if thing != "A":
                try:
                    texts = {"a": ("file", "x"), thing: None}
                except TypeError:
                    continue
                self.check_error(BadPath, repo, commit, texts)
        for texts in ({"a": None, "a/b": None}, {"a/b": ("file", ""), "a-": 1, "a": ("file", "")}, {"a//b": ("file", "")}):
            self.check_error(BadPath, repo, commit, texts)
        commit = lambda texts: repo.commit(texts, author="ann", now=1, parents=(ONE,))
        for thing in odd_things():
            self.check_error(BadName, repo, commit, {"b": ("file", "x"), "a": thing})
            self.check_error(BadName, repo, commit, {"a": (thing, "x")})
            if not isinstance(thing, str) or thing in ("\u00e9", "\ud800"):
                self.check_error(BadName, repo, commit, {"a": ("file", thing)})
        for thing in (("dir", "x"), ("file",), ("file", "x", "x"), ["file", "x"], ("file", "x" * 2001), ("file", "\t")):
            self.check_error(BadName, repo, commit, {"a": thing})
        self.check_error(BadName, repo, commit, {f"f{at}": ("file", "x") for at in range(31)})
        self.check_error(BadName, repo, commit, {f"d/f{at}": ("file", "x") for at in range(31)})
        self.check_error(NoObject, repo, commit, {f"d/f{at}": ("file", "x") for at in range(30)}, name=ONE)

    def test_other_wrong_arguments(self):
        repo = new_repo()
        fine = {"author": "ann", "now": 1, "message": "", "parents": (ONE,)}
        wrong = {"author": NO_AUTHORS, "now": NO_TIMES, "message": NO_MESSAGES, "parents": [
            thing for thing in no_names() if thing is not None] + [(ONE, ONE), tuple([f"{at:016x}" for at in range(7)])]}
        for word in wrong:
            for thing in wrong[word]:
                self.check_error(BadName, repo, lambda: repo.commit(FILES, **{**fine, word: thing}))
        self.check_error(NoObject, repo, lambda: repo.commit(FILES, **fine), name=ONE)

    def test_parents_that_are_absent_or_no_commits(self):
        repo = new_repo()
        one = repo.commit(FILES, author="ann", now=1)
        tree = repo.stored()[one].tree
        commit = lambda *parents: repo.commit(FILES, author="ann", now=1, parents=parents)
        self.check_error(NoObject, repo, commit, one, TWO, ONE, name=TWO)
        self.check_error(NoObject, repo, commit, TWO, tree, name=TWO)
        self.check_error(BadObject, repo, commit, one, tree, TWO, at=0)
        tag = repo.put(Tag(one, label="v1"), now=1)
        with repo.edit("ann", 2, "") as edit:
            edit.point("main", tag)
            edit.finish()
        self.check_error(BadObject, repo, lambda: repo.commit(FILES, author="ann", now=1), at=0)
        self.check_error(BadName, repo, lambda: repo.commit(FILES, author="Ann", now=1))
        self.assertEqual(len(repo.commit(FILES, author="ann", now=1, parents=(one,))), 16)

    def test_locks_and_references_in_the_way(self):
        repo = new_repo()
        one = repo.commit(FILES, author="ann", now=1)
        edit = repo.edit("ann", 2, "")
        edit.point("main/x", one)
        commit = lambda **more: repo.commit(FILES, **{"author": "ann", "now": 3, **more})
        self.check_error(Locked, repo, commit, ref="main/x")
        self.check_error(BadName, repo, lambda: commit(now=None))
        self.check_error(NoObject, repo, lambda: commit(parents=(ONE,)), name=ONE)
        edit.drop()
        commit()
        with repo.edit("ann", 4, "") as edit:
            edit.stand("id", one)
            edit.finish()
        edit = repo.edit("ann", 5, "")
        edit.stand("ref", "main")
        self.check_error(Locked, repo, commit, ref="HEAD")
        edit.finish()
        edit = repo.edit("ann", 6, "")
        edit.stand("ref", "main/x")
        commit()
        edit.finish()
        self.check_error(BadRef, repo, commit)
        other = repo.edit("ann", 7, "")
        other.point("main", one)
        self.check_error(Locked, repo, commit, ref="main")
        other.drop()
        self.check_error(BadRef, repo, commit)


class Edits(RepoCase):
    def setUp(self):
        self.disk = Disk()
        self.repo = Repo(self.disk)
        self.one = self.repo.commit(FILES, author="ann", now=1)
        self.two = self.repo.commit({}, author="ann", now=2)

    def test_it_is_used_as_an_edit_of_references(self):
        repo, refs = self.repo, self.repo.references()
        for edit in (repo.edit("eve", 3, "m"), refs.edit("eve", 3, "m")):
            with edit:
                edit.point("a", self.one, old=None)
                edit.delete("main", old=self.two)
                edit.stand("ref", "a")
                self.assertEqual(edit.moves(), (("a", None, self.one), ("main", self.two, None)))
                self.assertEqual(len(edit.behind()), 3)
                edit.finish()
            self.assert_error(BadCommand, edit.finish)
        self.assertEqual(repo.references().state(), refs.state())
        self.check_same(Repo(copied(self.disk)), snapshot(repo))
        self.assertEqual(repo.references().log("HEAD")[-1], (self.two, self.one, "eve", 3, "m"))

    def test_names_of_arguments_and_wrong_ones(self):
        repo = self.repo
        repo.edit(who="ann", now=3, message="").drop()
        for thing in NO_WORDS:
            self.check_error(BadName, repo, repo.edit, thing, 3, "")
        for thing in NO_TIMES:
            self.check_error(BadName, repo, repo.edit, "ann", thing, "")
        for thing in NO_MESSAGES:
            self.check_error(BadName, repo, repo.edit, "ann", 3, thing)
        with repo.edit("ann", 3, "") as edit:
            self.check_error(BadRef, repo, edit.point, "A", self.one)
            self.check_error(BadName, repo, edit.point, "a", None)
            self.check_error(BadName, repo, edit.stand, "id", "main")

    def test_what_stays_open_is_not_visible(self):
        repo = self.repo
        before = snapshot(repo)
        edit = repo.edit("ann", 3, "")
        edit.point("a", self.one)
        edit.stand("id", self.one)
        self.check_same(repo, before)
        self.check_same(Repo(copied(self.disk)), before)
        edit.drop()
        self.check_same(repo, before)
        with repo.edit("ann", 3, "") as edit:
            edit.point("a", self.one)
        self.check_same(repo, before)
        self.assert_error(BadCommand, edit.finish)

    def test_it_is_carried_out_on_the_repository_as_it_is_then(self):
        repo = self.repo
        edit = repo.edit("ann", 9, "late")
        edit.point("a", self.one)
        three = repo.commit(FILES, author="bob", now=5)
        repo.hold("w", (self.one,), now=5)
        edit.finish()
        refs = repo.references()
        self.assertEqual((refs["a"], refs["main"], len(refs.log("main"))), (self.one, three, 3))
        self.assertEqual(repo.holds(), {"w": (self.one,)})
        edit = repo.edit("ann", 9, "")
        edit.point("main", self.one, old=three)
        four = repo.references()
        edit.drop()
        repo.commit({}, author="bob", now=6)
        edit = repo.edit("ann", 9, "")
        edit.point("main", self.one, old=four["main"])
        self.check_error(Stale, repo, edit.finish, ref="main")

    def test_they_lock_one_another(self):
        repo = self.repo
        one, other = repo.edit("ann", 3, ""), repo.edit("bob", 3, "")
        one.point("a/b", self.one)
        one.stand("ref", "a/b")
        for ref in ("a", "a/b", "a/b/c"):
            self.check_error(Locked, repo, other.point, ref, self.one, ref="a/b")
            self.check_error(Locked, repo, other.delete, ref, ref="a/b")
        self.check_error(Locked, repo, other.stand, "ref", "main", ref="HEAD")
        other.point("a-", self.one)
        one.finish()
        other.point("a/c", self.two)
        other.finish()
        self.assertEqual(repo.references().names(), ("a-", "a/b", "a/c", "main"))

    def test_what_is_absent_is_found_by_finish_alone(self):
        repo = self.repo
        edit = repo.edit("ann", 3, "")
        edit.point("b", TWO)
        edit.point("c", ONE)
        edit.point("d", self.one)
        edit.point("d", ZERO)
        edit.point("d", self.two)
        self.assertEqual([row[2] for row in edit.moves()], [TWO, ONE, self.two])
        self.assertEqual(edit.behind()[0][0], ("b", TWO))
        self.check_error(NoObject, repo, edit.finish, name=ONE)
        edit.stand("id", ZERO)
        self.check_error(NoObject, repo, edit.finish, name=ZERO)
        edit.stand("ref", "nowhere")
        edit.delete("c")
        self.check_error(NoObject, repo, edit.finish, name=TWO)
        other = repo.edit("bob", 4, "")
        self.assert_error(Locked, other.point, "b", self.one)
        edit.point("b", self.one)
        edit.finish()
        self.assertEqual(repo.references().names(), ("b", "d", "main"))

    def test_stale_and_bad_references_go_ahead_of_what_is_absent(self):
        repo = self.repo
        with repo.edit("ann", 3, "") as edit:
            edit.point("main/x", ONE)
            self.check_error(BadRef, repo, edit.finish)
            edit.point("main/x", ONE, old=self.one)
            self.check_error(Stale, repo, edit.finish, ref="main/x")
            edit.delete("main")
            edit.point("main/x", ONE)
            self.check_error(NoObject, repo, edit.finish, name=ONE)
            edit.point("main/x", self.one)
            edit.finish()
        self.assertEqual(repo.references().names(), ("main/x",))

    def test_ids_of_each_kind(self):
        repo = self.repo
        blob = repo.put(Blob("b"), now=3)
        tag = repo.put(Tag(blob, label="v1"), now=3)
        with repo.edit("ann", 3, "") as edit:
            edit.point("b", blob)
            edit.point("far/x/t", tag)
            edit.stand("id", blob)
            edit.finish()
        self.assertEqual(repo.references().at_head(), blob)
        self.check_same(Repo(self.disk), snapshot(repo))

    def test_an_edit_with_no_change(self):
        repo = self.repo
        refs = repo.references().state()
        with repo.edit("ann", 3, "") as edit:
            edit.point("main", self.two)
            edit.stand("ref", "main")
            edit.finish()
        self.assertEqual(repo.references().state(), refs)

    def test_many_references_and_entries(self):
        repo, names = self.repo, [self.one, self.two]
        for at in range(60):
            with repo.edit("ann", at, f"m{at}\n") as edit:
                for ref in range(40):
                    if (at + ref) % 7 == 0:
                        edit.delete(f"r{ref}/x")
                    elif ref < 39:
                        edit.point(f"r{ref}/x", names[(at // (ref % 5 + 1)) % 2])
                edit.finish()
        self.check_same(Repo(copied(self.disk)), snapshot(repo))
        self.assertTrue(sum([len(repo.references().log(f"r{ref}/x")) for ref in range(40)]) > 800)


class Holds(RepoCase):
    def test_holds(self):
        disk = Disk()
        repo = Repo(disk)
        one = repo.commit(FILES, author="ann", now=1)
        blob = repo.put(Blob("b"), now=1)
        self.assertIsNone(repo.hold("w", (one, blob, one), now=2))
        repo.hold(word="a-1", names=(blob,), now=2)
        repo.hold("zz", (one,), now=3)
        self.assertEqual(list(repo.holds().items()), [("a-1", (blob,)), ("w", (one, blob, one)), ("zz", (one,))])
        self.check_same(Repo(copied(disk)), snapshot(repo))
        repo.hold("w", (blob,), now=0)
        repo.hold("a-1", (), now=4)
        repo.hold("nothing", (), now=4)
        self.assertEqual(repo.holds(), {"w": (blob,), "zz": (one,)})
        self.check_same(Repo(copied(disk)), snapshot(repo))
        self.assertEqual(repo.tick(blob), 1)
        for at in range(50):
            repo.hold(f"w{at}", tuple([one, blob][:at % 3]) * at, now=5)
        self.check_same(Repo(copied(disk)), snapshot(repo))
        self.check_whole(repo)

    def test_errors(self):
        repo = new_repo()
        blob = repo.put(Blob("b"), now=1)
        for thing in NO_WORDS:
            self.check_error(BadName, repo, lambda: repo.hold(thing, (ONE,), now=1))
        for thing in no_names():
            self.check_error(BadName, repo, lambda: repo.hold("w", thing, now=1))
        for thing in NO_TIMES:
            self.check_error(BadName, repo, lambda: repo.hold("w", (ONE,), now=thing))
            self.check_error(BadName, repo, lambda: repo.hold("w", (), now=thing))
        self.check_error(NoObject, repo, lambda: repo.hold("w", (blob, TWO, ONE, TWO), now=1), name=ONE)


class Merges(RepoCase):
    """A root, two sides of it that change different files, and one that changes the same as the first."""

    def setUp(self):
        self.disk = Disk()
        repo = self.repo = Repo(self.disk)
        self.root = repo.commit({"a": ("file", "1"), "d/b": ("file", "1")}, author="ann", now=1)
        self.right = repo.commit({"a": ("file", "2"), "d/b": ("file", "1")}, author="ann", now=2)
        self.torn = repo.commit({"a": ("file", "3"), "d/b": ("file", "1")}, author="ann", now=2, parents=(self.root,))
        self.left = repo.commit({"a": ("file", "1"), "d/b": ("exec", "2")}, author="ann", now=3, parents=(self.root,))

    def point(self, name):
        with self.repo.edit("eve", 4, "") as edit:
            edit.point("main", name)
            edit.finish()

    def test_a_commit_of_the_merged_files(self):
        repo = self.repo
        name = repo.merge(self.right, author="bob", now=5, message="join\nboth")
        commit, store = repo.stored()[name], repo.stored()
        self.assertEqual((commit.parents, commit.author, commit.time, commit.message), (
            (self.left, self.right), "bob", 5, "join\nboth"))
        files = [store.files_of(store[side].tree) for side in (self.root, self.left, self.right)]
        self.assertEqual(store.files_of(commit.tree), merged((files[0],), files[1], files[2])[0])
        entry = (self.left, name, "bob", 5, "join")
        self.assertEqual((repo.references().log("main")[-1], repo.references().log("HEAD")[-1]), (entry, entry))
        self.assertEqual({repo.tick(thing) for thing in (name, commit.tree)}, {5})
        self.check_same(Repo(copied(self.disk)), snapshot(repo))
        self.check_whole(repo)

    def test_if_one_reaches_the_other(self):
        repo = self.repo
        entries = repo.references().log("main")
        ids = repo.stored().ids()
        for name in (self.root, self.left):
            self.assertEqual(repo.merge(name, author="bob", now=5), self.left)
            self.assertEqual(repo.references().log("main"), entries)
        self.point(self.root)
        self.assertEqual(repo.merge(name=self.left, author="bob", now=6, message="up\nx"), self.left)
        self.assertEqual(repo.references().log("main")[-1], (self.root, self.left, "bob", 6, "up"))
        self.assertEqual(repo.stored().ids(), ids)

    def test_head_that_leads_to_no_id(self):
        repo = self.repo
        with repo.edit("eve", 4, "") as edit:
            edit.stand("ref", "new/x")
            edit.finish()
        self.assertEqual(repo.merge(self.right, author="bob", now=5, message="m"), self.right)
        refs = repo.references()
        self.assertEqual((refs["new/x"], refs["main"]), (self.right, self.left))
        self.assertEqual(refs.log("new/x"), [(None, self.right, "bob", 5, "m")])
        self.assertEqual(refs.log("HEAD")[-1], (None, self.right, "bob", 5, "m"))

    def test_head_at_an_id(self):
        repo = self.repo
        with repo.edit("eve", 4, "") as edit:
            edit.stand("id", self.right)
            edit.finish()
        name = repo.merge(self.left, author="bob", now=5)
        refs = repo.references()
        self.assertEqual((refs.head(), refs["main"]), (("id", name), self.left))
        self.assertEqual(repo.stored()[name].parents, (self.right, self.left))
        self.assertEqual(refs.log("HEAD")[-1], (self.right, name, "bob", 5, ""))

    def test_a_cut(self):
        """The histories of a repository have its cut: behind it two commits have no base."""
        from forkhaul.between import fetch
        repo = self.repo
        with repo.edit("eve", 4, "") as edit:
            edit.point("right", self.right)
            edit.finish()
        shallow = new_repo()
        fetch(shallow, repo, "o", now=5, depth=1)
        self.assertEqual(shallow.cuts(), tuple(sorted([self.left, self.right])))
        shallow.merge(self.left, author="bob", now=6)
        self.check_error(Conflict, shallow, lambda: shallow.merge(self.right, author="bob", now=7), paths=("a", "d/b"))

    def test_errors_and_their_order(self):
        repo = self.repo
        tree = repo.stored()[self.root].tree
        merge = lambda name, **more: repo.merge(name, **{"author": "bob", "now": 5, **more})
        for thing in [*odd_things(), ONE]:
            self.check_error(NoObject, repo, lambda: merge(thing, author=None), name=thing)
        self.check_error(BadObject, repo, lambda: merge(tree, now=None), at=0)
        for word, wrong in (("author", NO_AUTHORS), ("now", NO_TIMES), ("message", NO_MESSAGES)):
            for thing in wrong:
                for name in (self.right, self.root, self.torn):
                    self.check_error(BadName, repo, lambda: merge(name, **{word: thing}))
        odd = repo.put(Commit(tree, (tree,), author="ann", time=1), now=1)
        self.check_error(BadObject, repo, lambda: merge(odd), at=0)
        self.check_error(BadName, repo, lambda: merge(odd, now=None))
        self.point(self.torn)
        self.check_error(Conflict, repo, lambda: merge(self.right), paths=("a",))
        for word in ("author", "now", "message"):
            self.check_error(BadName, repo, lambda: merge(self.right, **{word: None}))
        edit = repo.edit("eve", 4, "")
        edit.delete("main")
        self.check_error(Conflict, repo, lambda: merge(self.right), paths=("a",))
        for name in (self.left, self.torn, self.root):
            self.check_error(Locked, repo, lambda: merge(name), ref="main")
        edit.drop()
        tag = repo.put(Tag(self.left, label="v1"), now=1)
        self.check_error(BadObject, repo, lambda: merge(tag), at=0)
        self.point(tag)
        self.check_error(BadObject, repo, lambda: merge(self.left), at=0)
        self.check_error(BadName, repo, lambda: merge(self.left, author=None))
        with repo.edit("eve", 4, "") as edit:
            edit.stand("ref", "main/x")
            edit.finish()
        self.check_error(BadRef, repo, lambda: merge(self.left))


if __name__ == "__main__":
    unittest.main()
