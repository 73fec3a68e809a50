"""[4], [17.3] What is promised over the whole program: drawn commands in several repositories, crashes among them."""

import unittest

from forkhaul.between import fetch, push
from forkhaul.changes import Change
from forkhaul.codes import id_of
from forkhaul.collecting import Collector, collect, expire
from forkhaul.deepening import deepen
from forkhaul.disk import Disk
from forkhaul.errors import BadExpression, BadRef, Conflict, Crash, Cut, ForkError
from forkhaul.history import History
from forkhaul.merging import merge_of, merged
from forkhaul.objects import Blob, Commit, Tag
from forkhaul.replays import pick
from forkhaul.repo import Repo
from forkhaul.revisions import commits_of, revision_of
from forkhaul.search import Search
from tests.helpers import chance
from tests.repos import RepoCase, commits_of as commits_in, copied, live, new_repo, rest_of, snapshot
from tests.test_between import edited, side_of, table_of
from tests.transfers import commits_in as commits_among, reach

SUFFIXES = ("", "~", "^2", "~2", "^0", "~3^2~", "^{tree}", ":f0", ":f1", "~:f0", "^2:f2")


class Places:
    """Some repositories on disks of their own, and commands that are drawn for them."""

    def __init__(self, seed, many, cuts=False):
        self.numbers = chance(seed)
        self.disks = [Disk() for _ in range(many)]
        self.repos = [Repo(disk) for disk in self.disks]
        self.cuts = cuts

    def draw(self, most):
        return next(self.numbers) % most

    def pick(self, names):
        return names[self.draw(len(names))]

    def command(self, repo, place, now):
        """A command for a repository, as a function of it and of the other ones."""
        commits = sorted(commits_in(repo))
        word = self.draw(11)
        if word < 3 or not commits:
            texts = {f"f{self.draw(3)}": ("file", f"{self.draw(5)}"), "x/y": ("exec", f"{now % 4}")}
            parents = tuple(sorted({self.pick(commits) for _ in range(self.draw(3)) if commits}))
            given = parents if self.draw(2) else None
            return lambda repo: repo.commit(texts, author="ann", now=now, message=f"m{now}\nx", parents=given)
        name, ref, old = self.pick(commits), f"r{self.draw(3)}", self.draw(4)
        if word == 3:
            return lambda repo: edited(repo, lambda edit: edit.point(ref, name), now)
        if word == 4:
            return lambda repo: edited(repo, lambda edit: edit.stand("ref", ref) if old else edit.delete(ref), now)
        if word == 5:
            return lambda repo: repo.merge(name, author="bob", now=now)
        if word == 6:
            names = (name, name)[:self.draw(3)]
            return lambda repo: repo.hold(f"h{old % 2}", names, now=now)
        if word == 7:
            return lambda repo: collect(repo, now=now, grace=old * 2) if now % 3 else expire(repo, now=now, age=old * 4)
        if word == 8:
            return lambda repo: repo.put(Tag(name, label=f"v{old}"), now=now)
        other = self.pick([at for at in range(len(self.repos)) if at != place])
        if word == 9:
            commands = [(ref, None if old else name, name), ("main", table_of(self.repos[other]).get("main"), name)]
            return lambda repo: push(self.repos[other], repo, [row for row in commands if row[2] in self.repos[
                other].stored()], f"p{other}", now=now, force=("main",)[:old % 2], atomic=old == 3)
        if self.cuts and self.draw(2):
            depth = self.draw(4) + 1
            return lambda repo: deepen(repo, self.repos[other], f"w{other}", now=now, depth=depth)
        return lambda repo: fetch(repo, self.repos[other], f"w{other}", now=now, single=old == 2)


def tried(command, repo):
    """Carry a command out, if nothing stands in its way."""
    try:
        command(repo)
    except (Conflict, BadRef, KeyError):
        pass


class Rows(RepoCase):
    def test_whole_behind_each_command(self):
        for seed in range(40):
            places = Places(seed, seed % 3 + 2, cuts=seed % 2 == 1)
            for now in range(40):
                at = places.draw(len(places.repos))
                repo = places.repos[at]
                tried(places.command(repo, at, now), repo)
                for one, disk in zip(places.repos, places.disks):
                    self.check_whole(one)
                self.check_same(Repo(copied(places.disks[at])), snapshot(repo))

    def test_crashes_between_and_within_commands(self):
        """What a crash leaves is gone on with, on its disk."""
        for seed in range(60):
            places = Places(seed + 500, 3, cuts=seed % 2 == 1)
            for now in range(30):
                at = places.draw(3)
                command = places.command(places.repos[at], at, now)
                whole = copied(places.disks[at])
                before = snapshot(places.repos[at])
                tried(command, Repo(whole))
                behind = snapshot(Repo(whole))
                places.disks[at].limit(places.draw(16))
                try:
                    tried(command, places.repos[at])
                except Crash:
                    places.disks[at] = places.disks[at].crashed(places.draw(27))
                    places.repos[at] = Repo(places.disks[at])
                places.disks[at].limit(None)
                shot = snapshot(places.repos[at])
                self.assertIn(rest_of(shot), (rest_of(before), rest_of(behind)))
                self.check_whole(places.repos[at])
                self.check_same(Repo(copied(places.disks[at])), shot)

    def test_transfer(self):
        """Between whole repositories exactly the commits that are missing are sent."""
        for seed in range(30):
            places = Places(seed + 900, 3)
            for now in range(30):
                at = places.draw(3)
                tried(places.command(places.repos[at], at, now), places.repos[at])
            for at, repo in enumerate(places.repos):
                for place, other in enumerate(places.repos):
                    if at != place:
                        mine, theirs = side_of(repo), side_of(other)
                        shown = reach(theirs.store, [name for _, name in theirs.rows()])
                        missing = commits_among(theirs.store, shown) - mine.commits()
                        self.assertEqual(set(fetch(repo, other, f"w{place}", now=99)), missing)


class Agreement(RepoCase):
    def all_to_all(self, places, order):
        """Each fetches from each other one, whatever the order."""
        pairs = [(at, other) for at in range(len(places.repos)) for other in range(len(places.repos)) if at != other]
        for at, other in sorted(pairs, key=lambda _: next(order)):
            fetch(places.repos[at], places.repos[other], f"w{other}", now=100, single=at % 2 == 0)

    def test_repositories_that_have_fetched_from_each_other_agree(self):
        for seed in range(40):
            places = Places(seed + 1300, seed % 3 + 2)
            for now in range(28):
                at = places.draw(len(places.repos))
                tried(places.command(places.repos[at], at, now), places.repos[at])
            self.all_to_all(places, places.numbers)
            reached = [side_of(repo).commits() for repo in places.repos]
            views = [repo.view() for repo in places.repos]
            for commits in reached:
                self.assertEqual(commits, reached[0])
            for name in reached[0]:
                for suffix in SUFFIXES:
                    self.assertEqual(len({self.value(view, name + suffix) for view in views}), 1)
                self.assertEqual(len({commits_of(view, f"{name} ^{name}~1" if view.store[name].parents else name)
                                      for view in views}), 1)

    def value(self, view, text):
        try:
            return revision_of(view, text)
        except BadExpression as error:
            return error.at

    def test_a_fetch_that_was_cut_off_is_fetched_again(self):
        for seed in range(10):
            places = Places(seed + 1700, 2)
            for now in range(20):
                at = places.draw(2)
                tried(places.command(places.repos[at], at, now), places.repos[at])
            repo, other = places.repos
            letters = 0
            while letters >= 0:
                before = snapshot(repo), snapshot(other)
                try:
                    fetch(repo, other, "w1", now=100, letters=letters)
                    letters = -1
                except Cut:
                    self.assertEqual((snapshot(repo), snapshot(other)), before)
                    letters += 1
            fetch(other, repo, "w0", now=100)
            self.assertEqual(side_of(repo).commits(), side_of(other).commits())


class Changes(RepoCase):
    """CHANGES: over the commits of drawn repositories."""

    def world(self, seed):
        places = Places(seed + 2100, 2)
        for now in range(25):
            at = places.draw(2)
            tried(places.command(places.repos[at], at, now), places.repos[at])
        return places

    def test_they_compose_and_invert(self):
        for seed in range(15):
            places = self.world(seed)
            history = places.repos[0].view().history
            names = sorted(commits_in(places.repos[0]))
            for _ in range(10 if names else 0):
                one, two, three = [history.files(places.pick(names)) for _ in range(3)]
                first, second = Change.between(one, two), Change.between(two, three)
                self.assertEqual((first + second).plain(), Change.between(one, three))
                self.assertEqual((first.on(one), (-first).on(two)), (two, one))
                self.assertEqual((first + second).on(one), three)
                self.assertEqual((first + -first).plain(), Change({}))

    def test_a_shared_change_takes_effect_once(self):
        """Two histories that have picked one change are merged as though one of them had."""
        for seed in range(20):
            places = self.world(seed)
            store = places.repos[0].stored()
            history = History(store)
            names = [name for name in sorted(commits_in(places.repos[0])) if len(store[name].parents) == 1]
            for name in names[:6]:
                parent = store[name].parents[0]
                onto = store.put(Commit(store[parent].tree, (parent,), author="eve", time=1, message="twin"))
                picked = pick(store, name, onto)
                files, conflicts = merge_of(history, name, picked)
                self.assertEqual((files, conflicts), (history.files(name), ()))
                self.assertEqual(merge_of(history, picked, name), (files, conflicts))
                self.assertEqual(merged((history.files(parent),), files, files), (files, ()))

    def test_search(self):
        """SEARCH: whichever commit brought the fault, it is always among the candidates."""
        for seed in range(15):
            places = self.world(seed)
            repo = places.repos[0]
            history = repo.view().history
            names = sorted(side_of(repo).commits())
            heads = [name for name in names if name in table_of(repo).values()]
            for fault in names[:4]:
                for head in [head for head in heads if history.reaches(head, fault)][:1]:
                    search = Search(history)
                    search.bad(head)
                    while (test := search.next()) is not None:
                        self.assertIn(fault, search.candidates())
                        (search.bad if history.reaches(test, fault) else search.good)(test)
                    self.assertEqual(search.found(), fault)


class Great(RepoCase):
    """Repositories at the bounds of [3]."""

    def test_a_great_history(self):
        disk = Disk()
        repo = Repo(disk)
        pair = (repo.commit({}, author="ann", now=0), repo.commit({"a": ("file", "x" * 2000)}, author="ann", now=0))
        for at in range(1, 98):
            texts = {f"d{at % 4}/f{n}": ("file", f"{at} {n}\n" * 9) for n in range(3)}
            left = repo.commit(texts, author="ann", now=at, parents=pair)
            pair = (left, repo.commit(texts, author="bob", now=at, parents=pair[::-1]))
        edited(repo, lambda edit: [edit.point("l", pair[0]), edit.point("r", pair[1])] and None)
        self.assertEqual(len(commits_in(repo)), 196)
        self.check_same(Repo(copied(disk)), snapshot(repo))
        other = new_repo()
        self.assertEqual(len(fetch(other, repo, "o", now=1)), 196)
        self.assertEqual(fetch(other, repo, "o", now=1), ())
        other.merge(pair[0], author="ann", now=2)
        merge = other.merge(pair[1], author="ann", now=3)
        self.assertEqual(push(other, repo, [("l", pair[0], merge), ("main", pair[1], merge)], "up", now=4), ("ok", "ok"))
        self.assertEqual(fetch(repo, other, "b", now=5), ())
        shallow = new_repo()
        for depth in (1, 50, 200):
            deepen(shallow, repo, "o", now=6, depth=depth)
            self.check_whole(shallow)
        self.assertEqual((shallow.cuts(), live(shallow)), ((), live(other)))
        for name in ("far/o/l", "far/o/r", "far/o/main"):
            edited(shallow, lambda edit: edit.delete(name))
        expire(shallow, now=100, age=0)
        self.assertEqual(len(collect(shallow, now=100, grace=0)), len(live(other)))

    def test_great_trees(self):
        repo = new_repo()
        texts = {f"d{at}/e/f{n}": ("exec", f"{at} {n}\n" * 2) for at in range(30) for n in range(30)}
        name = repo.commit(texts, author="ann", now=1)
        self.assertEqual(len(repo.view().history.files(name)), 900)
        other = new_repo()
        fetch(other, repo, "o", now=2)
        self.assertEqual(len(other.stored()), len(repo.stored()))
        self.check_whole(other)
        garbage = Collector(other, now=100, grace=1)
        self.assertEqual(garbage.garbage(), ())

    def test_great_logs_and_holds(self):
        disk = Disk()
        repo = Repo(disk)
        blobs = [repo.put(Blob(f"{at}"), now=at) for at in range(40)]
        for at in range(40):
            repo.hold(f"h{at}", tuple(blobs[:at]) * 3, now=at)
            edited(repo, lambda edit: [edit.point(f"r{n}", blobs[(n + at) % 40]) for n in range(40)] and None, at)
        self.check_same(Repo(copied(disk)), snapshot(repo))
        self.assertEqual(expire(repo, now=40, age=20), 20 * 40)
        self.check_same(Repo(copied(disk)), snapshot(repo))
        self.assertEqual(id_of(Blob("3")), blobs[3])


class Errors(RepoCase):
    def test_a_command_that_raises_an_error_changes_nothing(self):
        """Each drawn command that fails leaves all as it was."""
        failed = 0
        for seed in range(30):
            places = Places(seed + 2500, 2)
            for now in range(30):
                at = places.draw(2)
                repo = places.repos[at]
                before = snapshot(repo)
                try:
                    places.command(repo, at, now)(repo)
                except (ForkError, KeyError):
                    failed += 1
                    self.assertEqual(snapshot(repo), before)
        self.assertTrue(failed > 10)


if __name__ == "__main__":
    unittest.main()
