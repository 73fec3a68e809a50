"""[16] Roots, collectors, `collect` and `expire`."""

import unittest

from forkhaul.between import fetch
from forkhaul.collecting import Collector, collect, expire
from forkhaul.disk import Disk
from forkhaul.errors import BadCommand, BadName, Crash
from forkhaul.objects import Blob, Commit, Tag, Tree
from forkhaul.repo import Repo
from tests.helpers import chance, odd_things
from tests.repos import RepoCase, copied, live, new_repo, roots, snapshot
from tests.test_repo import NO_TIMES
from tests.transfers import parts, reach

FILES = {"a": ("file", "x")}
NO_COUNTS = [thing for thing in odd_things() if not (isinstance(thing, int) and not isinstance(thing, bool) and thing >= 0)]
FAR = 10 ** 9


def edited(repo, change, now=1):
    with repo.edit("eve", now, "") as edit:
        change(edit)
        edit.finish()


def removable(repo, now, grace):
    """The ids that a step may remove now, found in the plainest way, ascending."""
    store, cut = repo.stored(), repo.cuts()
    used = {part for name in store.ids() for part in parts(store, name, cut)}
    kept = live(repo)
    return [name for name in store.ids() if name not in kept and name not in used and now - repo.tick(name) > grace]


def remaining(repo, now, grace):
    """What a collection leaves: all that a root or an object that is not old reaches."""
    store = repo.stored()
    young = {name for name in store.ids() if now - repo.tick(name) <= grace}
    return {name for name in reach(store, roots(repo) | young, repo.cuts()) if name in store}


class CollectCase(RepoCase):
    def check_step(self, repo, collector, now, grace):
        """One step against the plainest way; it returns the id that was removed."""
        wanted = removable(repo, now, grace)
        before = snapshot(repo)
        name = collector.step()
        self.assertEqual(name, wanted[0] if wanted else None)
        if name is not None:
            del before["things"][name], before["ticks"][name]
        self.check_same(repo, before)
        return name

    def check_collect(self, repo, now, grace):
        """All steps, and what is left."""
        left = remaining(repo, now, grace)
        ids = repo.stored().ids()
        self.assertEqual(Collector(repo, now=now, grace=grace).garbage(), tuple([name for name in ids if name not in left]))
        collector = Collector(repo, now=now, grace=grace)
        removed = []
        while (name := self.check_step(repo, collector, now, grace)) is not None:
            removed.append(name)
        self.assertIsNone(collector.step())
        self.assertEqual((set(repo.stored().ids()), set(removed)), (left, set(ids) - left))
        self.assertEqual(collector.garbage(), ())
        self.check_whole(repo)
        return removed


class Keeping(CollectCase):
    """Each thing that keeps an object, alone, and what happens when it is gone."""

    def setUp(self):
        self.disk = Disk()
        repo = self.repo = Repo(self.disk)
        self.blob = repo.put(Blob("b"), now=1)
        self.tree = repo.put(Tree({"b": ("file", self.blob)}), now=1)
        self.commit = repo.put(Commit(self.tree, author="ann", time=1), now=1)
        self.tag = repo.put(Tag(self.commit, label="v1"), now=1)
        self.order = [self.tag, self.commit, self.tree, self.blob]

    def check_kept(self, many):
        """Of the chain of tag, commit, tree and blob so many are kept."""
        for grace in (0, FAR):
            kept = Repo(copied(self.disk))
            removed = self.check_collect(kept, FAR, grace)
            self.assertEqual(removed, self.order[:4 - many] if grace == 0 else [])

    def expired(self):
        expire(self.repo, now=FAR, age=0)

    def test_nothing_keeps_them(self):
        self.check_kept(0)
        self.assertEqual(collect(self.repo, now=FAR, grace=0), tuple(self.order))
        self.assertEqual(self.repo.stored().ids(), ())
        self.check_same(Repo(copied(self.disk)), snapshot(self.repo))

    def test_references(self):
        for name, many in ((self.tag, 4), (self.commit, 3), (self.tree, 2), (self.blob, 1)):
            edited(self.repo, lambda edit: edit.point("a/b", name))
            self.expired()
            self.check_kept(many)
        edited(self.repo, lambda edit: edit.delete("a/b"))
        self.check_kept(1)
        self.expired()
        self.check_kept(0)

    def test_the_id_in_head(self):
        edited(self.repo, lambda edit: edit.stand("id", self.commit))
        self.expired()
        self.check_kept(3)
        edited(self.repo, lambda edit: edit.stand("ref", "x"))
        self.check_kept(3)
        self.expired()
        self.check_kept(0)

    def test_old_and_new_ids_in_logs(self):
        edited(self.repo, lambda edit: edit.point("a", self.tree), now=5)
        edited(self.repo, lambda edit: edit.point("a", self.blob), now=6)
        self.check_kept(2)
        self.assertEqual(expire(self.repo, now=10, age=4), 1)
        self.check_kept(2)
        self.assertEqual(expire(self.repo, now=11, age=4), 1)
        self.check_kept(1)
        edited(self.repo, lambda edit: edit.point("a", self.tag), now=7)
        edited(self.repo, lambda edit: edit.delete("a"), now=8)
        self.assertEqual(expire(self.repo, now=12, age=4), 1)
        self.check_kept(4)
        self.assertEqual(expire(self.repo, now=13, age=4), 1)
        self.check_kept(0)

    def test_the_log_of_head(self):
        edited(self.repo, lambda edit: edit.stand("id", self.tag), now=5)
        edited(self.repo, lambda edit: edit.stand("id", self.blob), now=6)
        self.assertEqual(expire(self.repo, now=6, age=0), 1)
        self.check_kept(4)
        edited(self.repo, lambda edit: edit.stand("ref", "nowhere"), now=6)
        self.expired()
        self.check_kept(0)

    def test_holds(self):
        for names, many in (((self.blob, self.commit, self.blob), 3), ((self.blob,), 1), ((), 0)):
            self.repo.hold("w", names, now=1)
            self.check_kept(many)
        self.repo.hold("w", (self.tag,), now=1)
        self.repo.hold("v", (self.tree,), now=1)
        self.repo.hold("w", (), now=1)
        self.check_kept(2)

    def test_ticks(self):
        """An object that is not old keeps all that it reaches."""
        for thing, many in ((Blob("b"), 1), (Tree({"b": ("file", self.blob)}), 2), (Commit(self.tree, author="ann", time=1), 3)):
            self.repo.put(thing, now=100)
            for now, grace, kept in ((100, 0, many), (101, 1, many), (99, 0, many), (0, 0, 4), (101, 0, 0), (150, 49, 0),
                                     (150, 50, many), (150, 149, 4), (150, 148, many)):
                repo = Repo(copied(self.disk))
                self.assertEqual(self.check_collect(repo, now, grace), self.order[:4 - kept])

    def test_a_part_that_is_named_twice(self):
        repo = self.repo
        twice = repo.put(Tree({"a": ("file", self.blob), "b": ("exec", self.blob), "t": ("dir", self.tree)}), now=1)
        removed = self.check_collect(repo, FAR, 0)
        self.assertEqual(len(removed), 5)
        self.assertTrue(removed.index(twice) < removed.index(self.tree) < removed.index(self.blob))


class Steps(CollectCase):
    def test_the_example(self):
        for at in range(12):
            repo = new_repo()
            blob = repo.put(Blob(f"{at}"), now=100)
            tree = repo.put(Tree({"a": ("file", blob)}), now=100)
            commit = repo.put(Commit(tree, author="ann", time=0), now=100)
            collector = Collector(repo, now=200, grace=50)
            if at % 2:
                self.assertEqual([collector.step() for _ in range(4)], [commit, tree, blob, None])
            else:
                self.assertEqual(collector.step(), commit)
                repo.put(Commit(tree, author="bob", time=at), now=200)
                self.assertEqual((collector.step(), collector.garbage()), (None, ()))

    def test_the_order_of_removals(self):
        repo = new_repo()
        blobs = [repo.put(Blob(f"{at}"), now=1) for at in range(30)]
        for at in range(0, 30, 3):
            repo.put(Tree({f"f{n}": ("file", blobs[at + n]) for n in range(3)}), now=1)
        self.assertEqual(len(self.check_collect(repo, 100, 10)), 40)

    def test_what_comes_between_two_steps(self):
        """Puts, references, holds, expiry and other collectors, drawn; each step is judged anew."""
        for seed in range(40):
            numbers = chance(seed)
            repo = new_repo()
            blobs = [repo.put(Blob(f"{at}"), now=next(numbers) % 4) for at in range(6)]
            trees = [repo.put(Tree({"a": ("file", blobs[at]), "b": ("file", blobs[next(numbers) % 6])}), now=next(numbers) % 4)
                     for at in range(6)]
            names = []
            for at in range(8):
                parents = sorted({names[next(numbers) % at] for _ in range(next(numbers) % 3) if at})
                names.append(repo.put(Commit(trees[at % 6], tuple(parents), author="ann", time=at), now=next(numbers) % 4))
            collectors = [(Collector(repo, now=now, grace=grace), now, grace) for now, grace in (
                (5, 1), (5, 3), (9, 0), (3, 0))]
            for _ in range(30):
                collector, now, grace = collectors[next(numbers) % 4]
                self.check_step(repo, collector, now, grace)
                if next(numbers) % 2:
                    self.between(repo, numbers)
                self.check_whole(repo)
            for collector, now, grace in collectors:
                self.assertEqual(set(collector.garbage()), set(repo.stored().ids()) - remaining(repo, now, grace))
            self.check_collect(repo, 9, 2)

    def between(self, repo, numbers):
        ids = repo.stored().ids()
        word, now = next(numbers) % 7, next(numbers) % 7
        if not ids or word == 0:
            repo.put(Blob(f"{next(numbers) % 9}"), now=now)
            return
        name = ids[next(numbers) % len(ids)]
        thing = repo.stored()[name]
        if word == 1:
            repo.put(thing, now=now)
        elif word == 2:
            edited(repo, lambda edit: edit.point(f"r{now % 2}", name), now=now)
        elif word == 3:
            repo.hold(f"h{now % 2}", (name,) if now % 3 else (), now=now)
        elif word == 4:
            expire(repo, now=9, age=now)
        elif word == 5:
            repo.put(Tag(name, label="v1"), now=now)
        else:
            edited(repo, lambda edit: edit.delete(f"r{now % 2}"), now=now)

    def test_several_collectors(self):
        repo = new_repo()
        for at in range(9):
            repo.put(Blob(f"{at}"), now=at)
        one, other = Collector(repo, now=20, grace=15), Collector(repo, now=12, grace=8)
        self.assertEqual((len(one.garbage()), len(other.garbage())), (5, 4))
        removed = [one.step(), other.step(), other.step(), one.step(), one.step(), other.step(), one.step()]
        self.assertEqual(removed.count(None), 2)
        self.assertEqual(len(repo.stored()), 4)

    def test_times_that_go_back(self):
        repo = new_repo()
        repo.put(Blob("a"), now=100)
        self.assertEqual(self.check_collect(repo, 50, 0), [])
        repo.put(Blob("a"), now=40)
        self.assertEqual(len(self.check_collect(repo, 50, 9)), 1)

    def test_cuts(self):
        """Parents of a commit in the cut are no parts of it, also those that are present."""
        source = new_repo()
        names = []
        for at in range(5):
            names.append(source.commit({"a": ("file", f"{at}")}, author="ann", now=at))
        shallow = new_repo()
        fetch(shallow, source, "o", now=10, depth=2)
        self.assertEqual(shallow.cuts(), (names[3],))
        edited(source, lambda edit: edit.point("side", names[2]))
        fetch(shallow, source, "o", now=11)
        self.assertIn(names[2], shallow.stored())
        edited(shallow, lambda edit: edit.delete("far/o/side"), now=12)
        expire(shallow, now=100, age=1)
        removed = self.check_collect(shallow, 100, 1)
        self.assertEqual(len(removed), 9)
        self.assertTrue(removed.index(names[2]) < removed.index(names[1]) < removed.index(names[0]))
        edited(shallow, lambda edit: edit.delete("far/o/main"), now=12)
        expire(shallow, now=100, age=1)
        self.assertEqual(len(self.check_collect(shallow, 100, 1)), 6)
        self.assertEqual(shallow.cuts(), (names[3],))
        self.assertEqual(snapshot(shallow)["things"], {})
        # A commit of the cut may be put again without its parents.
        blob = shallow.put(Blob("3"), now=1)
        tree = shallow.put(Tree({"a": ("file", blob)}), now=1)
        self.assertEqual(shallow.put(source.stored()[names[3]], now=1), names[3])
        self.assertIn(tree, shallow.stored())
        self.check_whole(shallow)

    def test_drawn_collections_with_cuts(self):
        """Commits of the cut and their parents are present at once, and go in the order of their ids."""
        for seed in range(20):
            source = new_repo()
            names = []
            for at in range(6):
                parents = tuple(sorted({names[-1], names[seed % at]})) if at else ()
                names.append(source.commit({"a": ("file", f"{at // 2} {seed}")}, author="ann", now=at, parents=parents))
            shallow = new_repo()
            fetch(shallow, source, "o", now=10, depth=2)
            edited(source, lambda edit: edit.point("side", names[4]))
            edited(source, lambda edit: edit.point("main", names[2]))
            fetch(shallow, source, "p", now=10 + seed % 3)
            self.assertTrue(shallow.cuts())
            for ref in shallow.references().names():
                if ref[:5] != "far/p" or seed % 2:
                    edited(shallow, lambda edit: edit.delete(ref), now=12)
            expire(shallow, now=100, age=1)
            self.check_collect(shallow, 12, 1)
            self.check_collect(shallow, 100, 1)

    def test_garbage_removes_nothing(self):
        repo = new_repo()
        repo.commit(FILES, author="ann", now=1, parents=())
        repo.put(Blob("b"), now=1)
        before = snapshot(repo)
        collector = Collector(repo, now=5, grace=1)
        self.assertEqual(len(collector.garbage()), 1)
        self.check_same(repo, before)
        self.assertEqual(Collector(repo, now=5, grace=4).garbage(), ())

    def test_a_great_collection(self):
        repo = new_repo()
        for at in range(60):
            repo.commit({f"d{n}/f": ("file", f"{at if n == at % 20 else 0}") for n in range(20)}, author="ann", now=at)
        edited(repo, lambda edit: edit.delete("main"))
        many = len(repo.stored())
        self.assertEqual(collect(repo, now=100, grace=1), ())
        expire(repo, now=1000, age=0)
        removed = collect(repo, now=1000, grace=1)
        self.assertEqual((len(removed), len(repo.stored())), (many, 0))


class Crashes(CollectCase):
    def test_a_removal_is_done_or_not_done(self):
        disk = Disk()
        repo = Repo(disk)
        repo.commit(FILES, author="ann", now=1)
        for at in range(3):
            repo.put(Tree({"a": ("file", repo.put(Blob(f"{at}"), now=1))}), now=1)
        order = collect(Repo(copied(disk)), now=100, grace=1)
        self.assertEqual(len(order), 6)
        for left in range(7):
            other = copied(disk)
            repo = Repo(other)
            other.limit(left)
            if left < 6:
                self.assert_error(Crash, lambda: collect(repo, now=100, grace=1))
            else:
                self.assertEqual(collect(repo, now=100, grace=1), order)
            for mask in range(9):
                again = Repo(other.crashed(mask))
                self.assertEqual(set(snapshot(again)["things"]), set(Repo(disk).stored().ids()) - set(order[:left]))
                self.check_whole(again)
                self.assertEqual(collect(again, now=100, grace=1), order[left:])


class Errors(CollectCase):
    def test_wrong_numbers(self):
        repo = new_repo()
        repo.put(Blob("a"), now=1)
        for thing in NO_TIMES:
            self.check_error(BadCommand, repo, lambda: Collector(repo, now=thing, grace=0))
            self.check_error(BadCommand, repo, lambda: collect(repo, now=thing, grace=0))
        for thing in NO_COUNTS:
            self.check_error(BadCommand, repo, lambda: Collector(repo, now=100, grace=thing))
            self.check_error(BadCommand, repo, lambda: collect(repo, now=100, grace=thing))
        self.assertEqual(collect(repo, now=10 ** 12, grace=10 ** 30), ())


class Expiry(CollectCase):
    def test_expire(self):
        disk = Disk()
        repo = Repo(disk)
        for at in range(4):
            repo.commit({"a": ("file", f"{at}")}, author="ann", now=at * 10)
        refs = repo.references()
        for now, age in ((30, 30), (30, 29), (5, 0), (30, 11), (100, 70), (100, 0)):
            self.assertEqual(expire(repo, now=now, age=age), refs.expire(now, age=age))
            self.assertEqual(repo.references().state(), refs.state())
            self.check_same(Repo(copied(disk)), snapshot(repo))
        self.assertEqual((refs.state()[2], repo.references().names()), ((), ("main",)))
        self.check_collect(repo, 100, 1)

    def test_errors(self):
        repo = new_repo()
        repo.commit(FILES, author="ann", now=1)
        for thing in NO_COUNTS:
            self.check_error(BadName, repo, lambda: expire(repo, now=thing, age=0))
            self.check_error(BadName, repo, lambda: expire(repo, now=100, age=thing))

    def test_open_edits_stay(self):
        repo = new_repo()
        one = repo.commit(FILES, author="ann", now=1)
        edit = repo.edit("eve", 2, "")
        edit.point("main", one)
        edit.point("x", one)
        self.assertEqual(expire(repo, now=100, age=0), 2)
        edit.finish()
        self.assertEqual(repo.references().log("x"), [(None, one, "eve", 2, "")])
        self.assertEqual(repo.references().log("main"), [])


if __name__ == "__main__":
    unittest.main()
