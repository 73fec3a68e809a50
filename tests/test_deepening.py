"""[14.4] Deepening, in one step and in several."""

import unittest

from forkhaul.collecting import collect, expire
from forkhaul.deepening import deepen
from forkhaul.between import fetch
from forkhaul.disk import Disk
from forkhaul.errors import BadCommand, BadName, Cut, Locked
from forkhaul.objects import Blob, Commit, Tag
from forkhaul.repo import Repo
from tests.helpers import chance
from tests.repos import copied, live, new_repo, snapshot
from tests.test_between import NO_DEPTHS, NO_LIMITS, TransferCase, edited, side_of, table_of
from tests.test_repo import NO_TIMES, NO_WORDS
from tests.transfers import kept_and_ends, letters_of, reach


def reached(repo):
    """What the references of a repository reach, as far as it is there."""
    return reach(repo.stored(), table_of(repo).values(), repo.cuts())


class DeepCase(TransferCase):
    def check_cut(self, repo):
        """Each commit of the cut is there, and each other commit that is reached has its parents."""
        store, cut = repo.stored(), repo.cuts()
        for name in cut:
            self.assertIsInstance(store[name], Commit)
        for name in live(repo):
            if isinstance(store[name], Commit) and name not in cut:
                self.assertEqual([parent for parent in store[name].parents if parent not in store], [])

    def check_deepen(self, repo, other, depth, now=50):
        """`deepen` does what `fetch` does with a depth, and keeps at least what such a copy has."""
        twin = self.twin(repo)
        wanted = fetch(twin, other, "o", now=now, depth=depth)
        self.assertEqual(deepen(repo, other, "o", now=now, depth=depth), wanted)
        self.check_same(repo, snapshot(twin))
        self.check_whole(repo)
        self.check_cut(repo)
        heads = [name for ref, name in table_of(other).items() if not ref.startswith("far/")]
        kept, _ = kept_and_ends(other.stored(), heads, depth, other.cuts())
        self.assertEqual([name for name in kept if name not in repo.stored()], [])

    def twin(self, repo):
        """A repository that has the same state on a disk of its own."""
        return Repo(copied(repo.disk))

    def on_disk(self):
        disk = Disk()
        repo = Repo(disk)
        repo.disk = disk
        return repo

    def source(self, seed, many=14, cut=0):
        """A repository with a drawn history and some heads, tags among them; cut off at a depth if asked for."""
        numbers = chance(seed)
        repo = new_repo()
        names = []
        for at in range(many):
            parents = sorted({names[next(numbers) % at] for _ in range(next(numbers) % 3 + 1) if at})
            if next(numbers) % 3 == 0 and at:
                parents = [names[-1]]
            names.append(repo.commit({f"f{at % 3}": ("file", f"{at // 2}")}, author="ann", now=at, parents=tuple(parents)))

        def change(edit):
            edit.point("side", names[next(numbers) % many])
            edit.point("tag", repo.put(Tag(names[next(numbers) % many], label="v1"), now=many))
            edit.point("blob", repo.put(Blob("b"), now=many))

        edited(repo, change, many)
        if cut == 0:
            return repo
        shallow = new_repo()
        fetch(shallow, repo, "s", now=many, depth=cut)
        edited(shallow, lambda edit: [edit.point(ref, name) for ref, name in table_of(repo).items()] and None)
        return shallow


class Depths(DeepCase):
    def test_in_one_step(self):
        for seed in range(12):
            for cut in (0, 2, 4):
                other = self.source(seed, cut=cut)
                for depth in (1, 2, 3, 5, 200):
                    repo = self.on_disk()
                    self.check_deepen(repo, other, depth)
                    self.assertEqual(repo.cuts(), kept_and_ends(other.stored(), [
                        name for ref, name in table_of(other).items() if ref[:4] != "far/"], depth, other.cuts())[1])

    def test_in_several_steps(self):
        """The same objects that references reach, and the same cut, as the deepest step alone."""
        for seed in range(16):
            numbers = chance(seed)
            for cut in (0, 3):
                other = self.source(seed, cut=cut)
                for _ in range(3):
                    depths = [next(numbers) % 6 + 1 for _ in range(next(numbers) % 4 + 2)]
                    repo, alone = self.on_disk(), self.on_disk()
                    for depth in depths:
                        self.check_deepen(repo, other, depth)
                    self.check_deepen(alone, other, max(depths))
                    self.assertEqual((reached(repo), repo.cuts()), (reached(alone), alone.cuts()))

    def test_the_depth_200(self):
        """The copy is as deep as the other one."""
        for seed in range(12):
            for cut in (0, 2):
                other = self.source(seed, cut=cut)
                repo = self.on_disk()
                self.check_deepen(repo, other, 2)
                self.check_deepen(repo, other, 200)
                self.assertEqual(reached(repo), reached(other))
                if cut == 0:
                    self.assertEqual(repo.cuts(), ())
                self.assertEqual(repo.cuts(), tuple([name for name in other.cuts() if name in reached(other)
                                                     and not set(repo.stored()[name].parents) <= reached(repo)]))

    def test_a_whole_repository_stays_whole(self):
        for seed in range(8):
            other = self.source(seed)
            repo = self.on_disk()
            fetch(repo, other, "o", now=20)
            for depth in (1, 3, 200):
                self.check_deepen(repo, other, depth)
                self.assertEqual(repo.cuts(), ())

    def test_heads_that_move(self):
        for seed in range(10):
            other = self.source(seed)
            repo = self.on_disk()
            for depth in (2, 1, 4, 3):
                self.check_deepen(repo, other, depth)
                other.commit({"n": ("file", f"{depth}")}, author="ann", now=40 + depth)
                if depth == 4:
                    edited(repo, lambda edit: edit.point("mine", repo.references()["far/o/side"]))
                    expire(repo, now=100, age=1)
                    collect(repo, now=100, grace=1)
                    self.check_whole(repo)
            self.check_deepen(repo, other, 200)

    def test_a_line_of_200_commits(self):
        other = new_repo()
        names = [other.commit({"a": ("file", f"{at % 5}")}, author="ann", now=at) for at in range(200)]
        repo = self.on_disk()
        for depth in (1, 7, 199):
            self.check_deepen(repo, other, depth)
            self.assertEqual(repo.cuts(), (names[-depth],))
        self.check_deepen(repo, other, 200)
        self.assertEqual(repo.cuts(), ())


class Letters(DeepCase):
    def test_cut_off_behind_each_number_of_letters(self):
        other = self.source(3)
        repo = self.on_disk()
        deepen(repo, other, "o", now=20, depth=2)
        letters = len(letters_of(side_of(other), side_of(repo), depth=4))
        self.assertTrue(letters > 5)
        before = snapshot(other)
        for many in range(letters):
            self.check_error(Cut, repo, lambda: deepen(repo, other, "o", now=21, depth=4, letters=many))
        for many in (letters, letters + 1, None):
            twin = self.twin(repo)
            deepen(repo=twin, other=other, word="o", now=21, depth=4, letters=many)
            self.check_whole(twin)
        self.check_same(other, before)

    def test_errors_and_their_order(self):
        other = self.source(4)
        repo = self.on_disk()
        call = lambda word="o", now=9, depth=1, letters=0: deepen(repo, other, word, now=now, depth=depth, letters=letters)
        for thing in NO_WORDS:
            self.check_error(BadName, repo, lambda: call(thing, depth=None))
        for thing in NO_TIMES:
            self.check_error(BadName, repo, lambda: call(now=thing, depth=0))
        for thing in [*NO_DEPTHS, None]:
            self.check_error(BadCommand, repo, lambda: call(depth=thing, letters="x"))
        for thing in NO_LIMITS:
            self.check_error(BadName, repo, lambda: call(letters=thing))
        self.check_error(Cut, repo, call)
        edit = repo.edit("eve", 1, "")
        edit.delete("far/o")
        self.check_error(Locked, repo, lambda: call(letters=None), ref="far/o")
        self.check_error(Cut, repo, call)


if __name__ == "__main__":
    unittest.main()
