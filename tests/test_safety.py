"""[15.5] Each command of a repository, cut off behind each number of its steps, with each loss that a crash allows."""

import unittest

from forkhaul.between import fetch, push
from forkhaul.collecting import Collector, collect, expire
from forkhaul.deepening import deepen
from forkhaul.disk import Disk
from forkhaul.errors import Crash
from forkhaul.objects import Blob, Commit, Tag, Tree
from forkhaul.repo import Repo
from tests.helpers import chance
from tests.repos import RepoCase, copied, new_repo, snapshot

TEXTS = {"a": ("file", "x"), "d/b": ("exec", "yy"), "d/c": ("file", "x")}
MASKS = (0, 1, 2, 5, 13)


def edited(repo, change, now=50):
    with repo.edit("eve", now, "edit\nit") as edit:
        change(edit)
        edit.finish()


class Sample(RepoCase):
    """A repository with two branches, a tag, a hold and something that nothing reaches; and another one."""

    def setUp(self):
        disk = self.disk = Disk()
        repo = Repo(disk)
        self.one = repo.commit(TEXTS, author="ann", now=1, message="one")
        self.two = repo.commit({**TEXTS, "e": ("file", "z")}, author="ann", now=2)
        self.side = repo.commit({"a": ("file", "other")}, author="ann", now=3, parents=(self.one,))
        self.tag = repo.put(Tag(self.side, label="v1"), now=4)
        self.lone = repo.put(Blob("lone"), now=4)
        edited(repo, lambda edit: edit.point("main", self.two))
        edited(repo, lambda edit: edit.point("v1", self.tag))
        repo.hold("w", (self.two, self.lone), now=5)
        self.other_disk = Disk()
        other = Repo(self.other_disk)
        fetch(other, repo, "up", now=6)
        other.merge(self.two, author="bob", now=7)
        self.new = other.commit({"n/m": ("file", "new"), "a": ("file", "x")}, author="bob", now=8)
        edited(other, lambda edit: edit.point("n", self.new))

    def other(self):
        return Repo(copied(self.other_disk))


class Commands(Sample):
    def check(self, command, masks=MASKS, again=True):
        return self.check_crashes(self.disk, command, masks, again)

    def test_put(self):
        self.assertTrue(self.check(lambda repo: repo.put(Blob("fresh"), now=60)))
        self.check(lambda repo: repo.put(Blob("lone"), now=60))
        self.check(lambda repo: repo.put(Blob("x"), now=0))
        self.check(lambda repo: repo.put(Tag(self.tag, label="v2"), now=60))
        self.check(lambda repo: repo.put(Tree({"a": ("file", self.lone)}), now=60))

    def test_commit(self):
        self.check(lambda repo: repo.commit(TEXTS, author="ann", now=60), again=False)
        self.check(lambda repo: repo.commit(TEXTS, author="ann", now=60, parents=(self.two,)))
        self.check(lambda repo: repo.commit({}, author="ann", now=60, parents=()))
        self.check(lambda repo: repo.commit({"q/r/s": ("file", "1"), "q/t": ("file", "2")}, author="ann", now=60,
                                            parents=(self.one, self.side)), again=False)

    def test_commit_with_head_at_an_id_and_at_nothing(self):
        for change in (lambda edit: edit.stand("id", self.side), lambda edit: edit.stand("ref", "new")):
            repo = Repo(self.disk)
            edited(repo, change)
            self.check(lambda repo: repo.commit({"q": ("file", "1")}, author="ann", now=60, parents=(self.one,)))

    def test_the_first_commit(self):
        self.check_crashes(Disk(), lambda repo: repo.commit(TEXTS, author="ann", now=60, parents=()), MASKS)

    def test_the_first_put(self):
        self.check_crashes(Disk(), lambda repo: repo.put(Blob("fresh"), now=60), MASKS)

    def test_edits(self):
        def change(edit):
            edit.point("main", self.side)
            edit.delete("v1")
            edit.point("x/y", self.lone)
            edit.stand("id", self.tag)

        self.check(lambda repo: edited(repo, change))
        self.check(lambda repo: edited(repo, lambda edit: edit.stand("ref", "x")))

    def test_holds(self):
        self.check(lambda repo: repo.hold("v", (self.lone, self.one, self.lone), now=60))
        self.check(lambda repo: repo.hold("w", (), now=60))
        self.check(lambda repo: repo.hold("w", (self.tag,), now=60))

    def test_merges(self):
        self.check(lambda repo: repo.merge(self.one, author="bob", now=60))
        repo = Repo(self.disk)
        side = repo.commit({**TEXTS, "q/r": ("file", "q")}, author="ann", now=9, parents=(self.one,))
        edited(repo, lambda edit: edit.point("main", self.two))
        self.check(lambda repo: repo.merge(side, author="bob", now=60), again=False)
        edited(repo, lambda edit: edit.point("main", self.one))
        self.check(lambda repo: repo.merge(self.two, author="bob", now=60))
        edited(repo, lambda edit: edit.stand("ref", "new"))
        self.check(lambda repo: repo.merge(self.two, author="bob", now=60))

    def test_expire(self):
        self.check(lambda repo: expire(repo, now=60, age=20))
        self.check(lambda repo: expire(repo, now=60, age=1))

    def test_collecting(self):
        def prepare(repo):
            edited(repo, lambda edit: edit.point("main", self.one))
            repo.hold("w", (), now=5)
            expire(repo, now=60, age=1)

        prepare(Repo(self.disk))
        self.assertEqual(self.check(lambda repo: collect(repo, now=60, grace=1)), 4)
        # A removal is one step of the disk.
        self.assertEqual(self.check(lambda repo: Collector(repo, now=60, grace=1).step(), again=False), 1)

    def test_fetches(self):
        other = self.other()
        self.check(lambda repo: fetch(repo, other, "o", now=60))
        self.check(lambda repo: fetch(repo, other, "o", now=60, depth=1))
        fetch(Repo(self.disk), other, "o", now=60)
        edited(other, lambda edit: edit.delete("n"))
        self.check(lambda repo: fetch(repo, other, "o", now=61))

    def test_fetches_into_an_empty_repository(self):
        other = self.other()
        for depth in (None, 1, 2):
            self.check_crashes(Disk(), lambda repo: fetch(repo, other, "o", now=60, depth=depth), (0, 1, 2))

    def test_fetches_from_a_shallow_repository(self):
        shallow = new_repo()
        fetch(shallow, self.other(), "o", now=1, depth=1)
        edited(shallow, lambda edit: edit.point("main", self.new))
        self.assertEqual(shallow.cuts(), (self.new,))
        self.check_crashes(Disk(), lambda repo: fetch(repo, shallow, "s", now=60), (0, 1, 2))

    def test_commands_behind_others_of_the_same_repository(self):
        shallow = new_repo()
        fetch(shallow, self.other(), "o", now=1, depth=1)
        edited(shallow, lambda edit: edit.point("main", self.new))

        def ahead(repo):
            for at in range(3):
                repo.commit({"a": ("file", f"{at}")}, author="ann", now=at, parents=())

        for disk in (Disk(), self.disk):
            self.check_crashes(disk, lambda repo: fetch(repo, shallow, "s", now=60), (0, 1, 2), ahead=ahead)
            self.check_crashes(disk, lambda repo: repo.put(Blob("fresh"), now=60), (0, 1, 2), ahead=ahead)
            self.check_crashes(disk, lambda repo: repo.commit(TEXTS, author="ann", now=60, parents=()), (0, 1, 2), ahead=ahead)

    def test_deepening(self):
        disk, other = Disk(), self.other()
        fetch(Repo(disk), other, "o", now=9, depth=1)
        self.assertNotEqual(Repo(disk).cuts(), ())
        for depth in (2, 200):
            self.check_crashes(disk, lambda repo: deepen(repo, other, "o", now=60, depth=depth), (0, 1, 2))

    def test_pushes(self):
        commands = [("main", self.two, self.new), ("v1", self.tag, None), ("x/y", None, self.new)]
        other = self.other()
        self.check(lambda repo: push(other, repo, commands, "up", now=60))

    def test_the_other_side_does_not_change(self):
        other = self.other()
        before, steps = snapshot(other), []
        disk = copied(self.disk)
        repo = Repo(disk)
        self.other_disk.limit(0)
        quiet = Repo(self.other_disk)
        fetch(repo, quiet, "o", now=60)
        push(quiet, repo, [("main", self.two, self.new)], "up", now=61)
        self.check_same(quiet, before)
        self.assertEqual(steps, [])


class Afterwards(Sample):
    def test_what_is_collected_behind_a_crash_does_not_come_back(self):
        """Behind each number of steps of a commit that puts again what was there."""
        for now in (60, 10):
            self.check_afterwards(now)

    def check_afterwards(self, now):
        left, is_done = 0, False
        while not is_done:
            disk = copied(self.disk)
            repo = Repo(disk)
            disk.limit(left)
            try:
                repo.commit(TEXTS, author="ann", now=now)
                is_done = True
            except Crash:
                pass
            for mask in range(3):
                other = disk.crashed(mask)
                repo = Repo(other)
                edited(repo, lambda edit: [edit.delete(ref) for ref in ("main", "v1")] and None)
                repo.hold("w", (), now=61)
                expire(repo, now=100, age=0)
                self.assertTrue(collect(repo, now=100, grace=10))
                self.check_same(Repo(copied(other)), snapshot(repo))
                self.assertEqual(repo.stored().ids(), ())
            left += 1
        self.assertTrue(left > 10)


class Rows(Sample):
    def test_crashes_one_after_another_on_the_same_disk(self):
        """Whatever has returned is there from then on, and what was cut off is as though it had not been, or done."""
        for seed in range(25):
            numbers = chance(seed)
            disk = copied(self.disk)
            other = self.other()
            for at in range(14):
                repo = Repo(disk)
                before = snapshot(repo)
                command = self.drawn(numbers, at, other)
                whole = copied(disk)
                command(Repo(whole))
                behind = snapshot(Repo(whole))
                disk.limit(next(numbers) % 12)
                try:
                    command(repo)
                    self.check_same(repo, behind)
                except Crash:
                    pass
                disk = disk.crashed(next(numbers) % 27)
                disk.limit(next(numbers) % 3)
                try:
                    Repo(disk)
                except Crash:
                    disk = disk.crashed(next(numbers) % 27)
                disk.limit(None)
                self.check_between(Repo(copied(disk)), before, behind)

    def drawn(self, numbers, at, other):
        word = next(numbers) % 8
        name = (self.one, self.two, self.side, self.tag)[next(numbers) % 4]
        now = 60 + at
        if word == 0:
            return lambda repo: repo.put(Blob(f"b{at % 3}"), now=now)
        if word == 1:
            return lambda repo: repo.commit({f"f{at % 3}": ("file", f"{at}")}, author="ann", now=now, parents=(self.one,))
        if word == 2:
            return lambda repo: edited(repo, lambda edit: edit.point(f"r{at % 3}", name), now)
        if word == 3:
            return lambda repo: repo.hold(f"h{at % 2}", (name,), now=now)
        if word == 4:
            return lambda repo: expire(repo, now=now, age=at)
        if word == 5:
            return lambda repo: collect(repo, now=now, grace=at)
        if word == 6:
            return lambda repo: fetch(repo, other, "o", now=now, depth=at % 3 or None)
        return lambda repo: push(other, repo, [(f"p{at % 4}", None, self.new)], "up", now=now)


class Great(RepoCase):
    def test_a_great_commit_with_drawn_masks(self):
        disk = Disk()
        Repo(disk).commit({f"d{at}/f": ("file", f"{at}") for at in range(12)}, author="ann", now=1)
        texts = {f"d{at}/f{at % 5}": ("exec", f"{at + 1}\n" * at) for at in range(18)}
        numbers = chance(5)
        self.check_crashes(disk, lambda repo: repo.commit(texts, author="ann", now=2, parents=()), [
            0, 1, 2, next(numbers), next(numbers)])


if __name__ == "__main__":
    unittest.main()
