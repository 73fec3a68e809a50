"""What several files that test repositories share: what is in one, what must hold of each, and crashes of commands."""

from forkhaul.codes import id_of
from forkhaul.disk import Disk
from forkhaul.errors import Crash
from forkhaul.objects import Commit
from forkhaul.repo import Repo
from tests.helpers import Case
from tests.transfers import parts, reach

PLENTY = 10 ** 9


def copied(disk):
    """An equal disk, if all of it is safe; what is not loses its content, so that a test sees it."""
    return disk.crashed(0)


def new_repo():
    return Repo(Disk())


def snapshot(repo):
    """All that can be asked of a repository."""
    store = repo.stored()
    return {
        "things": {name: store[name] for name in store.ids()}, "ticks": {name: repo.tick(name) for name in store.ids()},
        "refs": repo.references().state(), "cuts": repo.cuts(), "holds": repo.holds(),
    }


def rest_of(shot):
    """What changes together or not at all."""
    return (shot["refs"], shot["cuts"], shot["holds"])


def roots(repo):
    """All ids that references, HEAD, logs and holds name."""
    rows, head, logs = repo.references().state()
    names = {name for _, name in rows} | ({head[1]} if head[0] == "id" else set())
    names |= {name for _, entries in logs for entry in entries for name in entry[:2]}
    names |= {name for held in repo.holds().values() for name in held}
    return names - {None}


def live(repo):
    return reach(repo.stored(), roots(repo), repo.cuts())


class RepoCase(Case):
    def check_whole(self, repo):
        """[4] WHOLE, and that no object lacks a part."""
        store, cut = repo.stored(), repo.cuts()
        self.assertEqual(store.missing(tuple(roots(repo)), cut=cut), ())
        for name in store.ids():
            self.assertEqual(id_of(store[name]), name)
            self.assertEqual([part for part in parts(store, name, cut) if part not in store], [], name)
        self.assertEqual(cut, tuple(sorted(set(cut))))

    def check_same(self, repo, shot):
        self.assertEqual(snapshot(repo), shot)

    def check_error(self, kind, repo, call, *arguments, **fields):
        """The error, and that nothing has changed."""
        before = snapshot(repo)
        self.assert_error(kind, call, *arguments, **fields)
        self.check_same(repo, before)

    def check_between(self, repo, before, behind):
        """The state is the one before the command or the one behind it, but for objects that nothing reaches and ticks."""
        shot = snapshot(repo)
        self.check_whole(repo)
        if rest_of(shot) == rest_of(behind) != rest_of(before):
            self.assertEqual(shot, behind)
            return
        self.assertEqual(rest_of(shot), rest_of(before))
        reached = live(repo)
        for name in before["things"]:
            if name in reached or name in behind["things"]:
                self.assertEqual(shot["things"][name], before["things"][name])
            if name in reached:
                self.assertEqual(shot["ticks"][name], before["ticks"][name])
        for name in shot["things"]:
            known = [side for side in (before, behind) if name in side["things"]]
            self.assertTrue(known, name)
            self.assertIn(shot["things"][name], [side["things"][name] for side in known])
            self.assertIn(shot["ticks"][name], [side["ticks"][name] for side in known])
            if name not in before["things"]:
                self.assertNotIn(name, reached)

    def check_opening(self, disk, shot):
        """Opening twice is opening once; a crash while opening loses nothing."""
        is_open, left = False, 0
        while not is_open:
            other = copied(disk)
            other.limit(left)
            try:
                self.check_same(Repo(other), shot)
                is_open = True
            except Crash:
                for mask in range(3):
                    self.check_same(Repo(other.crashed(mask)), shot)
            left = 2 * left + 1
        other = copied(disk)
        for _ in range(2):
            self.check_same(Repo(other), shot)
            other = copied(other)

    def ready(self, disk, ahead):
        other = copied(disk)
        repo = Repo(other)
        if ahead is not None:
            ahead(repo)
        return snapshot(repo), other, repo

    def check_crashes(self, disk, command, masks=range(9), again=True, ahead=None):
        """Cut a command off behind each number of steps, with each of these masks; return how many steps it has.

        The command gets a repository that was opened on a copy of the disk, and that has carried out what is to be
        done `ahead`. With `again` it is one that can be done again, and that leads to the same references then.
        """
        before, whole, repo = self.ready(disk, ahead)
        whole.limit(PLENTY)
        command(repo)
        steps = PLENTY - whole.left
        behind = snapshot(repo)
        for mask in masks:
            self.check_same(Repo(whole.crashed(mask)), behind)
        for left in range(steps):
            _, other, repo = self.ready(disk, ahead)
            other.limit(left)
            self.assert_error(Crash, command, repo)
            for mask in masks:
                crashed = other.crashed(mask)
                self.check_between(Repo(copied(crashed)), before, behind)
                self.check_opening(crashed, snapshot(Repo(copied(crashed))))
                if again:
                    repo = Repo(crashed)
                    command(repo)
                    self.check_whole(repo)
                    shot = snapshot(repo)
                    self.assertEqual((shot["refs"][:2], *rest_of(shot)[1:]), (behind["refs"][:2], *rest_of(behind)[1:]))
        return steps


def commits_of(repo):
    store = repo.stored()
    return {name for name in store.ids() if isinstance(store[name], Commit)}
