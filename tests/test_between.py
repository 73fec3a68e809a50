"""[17.1], [17.2] Fetches and pushes between repositories."""

import itertools
import unittest

from forkhaul.between import fetch, push
from forkhaul.codes import id_of
from forkhaul.collecting import collect
from forkhaul.disk import Disk
from forkhaul.errors import BadCommand, BadName, BadRef, Cut, Locked, NoObject
from forkhaul.objects import Blob, Commit, Tag, Tree
from forkhaul.packs import unpack
from forkhaul.pushing import accepted, judge, parcel
from forkhaul.repo import Repo
from forkhaul.store import Store, parts_first
from tests.helpers import MOST, ONE, TWO, chance, odd_things
from tests.repos import RepoCase, copied, new_repo, snapshot
from tests.test_repo import NO_TIMES, NO_WORDS
from tests.transfers import Side, letters_of, new_cut, parts, reach

TEXTS = {"a": ("file", "x"), "d/b": ("exec", "y")}
NO_LIMITS = [thing for thing in odd_things() if thing is not None and not (
    isinstance(thing, int) and not isinstance(thing, bool) and thing >= 0)]
NO_DEPTHS = [thing for thing in odd_things() if thing is not None and not (isinstance(thing, int) and thing == 1)] + [
    True, 0, 201, "1", -1]


def edited(repo, change, now=1):
    with repo.edit("eve", now, "") as edit:
        change(edit)
        edit.finish()


def table_of(repo):
    refs = repo.references()
    return {ref: refs[ref] for ref in refs.names()}


def side_of(repo):
    return Side(repo.stored(), table_of(repo), repo.cuts())


class TransferCase(RepoCase):
    def check_fetch(self, repo, other, word, now, single=False, depth=None):
        """A fetch against what is worked out in the test; it returns the letters."""
        before, there = snapshot(repo), snapshot(other)
        client, server = side_of(repo), side_of(other)
        letters = letters_of(server, client, single, depth)
        things = {id_of(thing): thing for thing in unpack(letters[-1][1])} if len(letters) > 1 else {}
        refs = repo.references()
        with refs.edit(word, now, "fetch") as edit:
            heads = {f"far/{word}/{ref}": name for ref, name in server.rows()}
            for ref in heads:
                edit.point(ref, heads[ref])
            for ref in refs.names():
                if ref.startswith(f"far/{word}/") and ref not in heads:
                    edit.delete(ref)
            edit.finish()
        sent = fetch(repo, other, word, now=now, single=single, depth=depth)
        self.assertEqual(sent, tuple(sorted([name for name in things if isinstance(things[name], Commit)])))
        ticks = {**before["ticks"], **{name: now for name in things}}
        whole = {**before["things"], **things}
        self.assertEqual(snapshot(repo), {
            "things": {name: whole[name] for name in sorted(whole)}, "ticks": ticks, "refs": refs.state(),
            "cuts": new_cut(client, letters, things, depth), "holds": before["holds"]})
        self.check_same(other, there)
        self.check_whole(repo)
        return letters

    def check_push(self, repo, other, commands, now=50, **terms):
        """A push against what is worked out in the test; it returns the answers."""
        before, own = snapshot(other), snapshot(repo)
        refs, store = other.references(), other.stored()
        names = parcel(repo.stored(), commands, tuple(table_of(other).values()), cut=repo.cuts())
        for name in names:
            store.put(repo.stored()[name])
        answers = judge(store, refs, commands, cut=other.cuts(), **terms)
        changes = accepted(store, refs, commands, cut=other.cuts(), **terms)
        needed = reach(store, [new for _, _, new in changes if new], other.cuts()) & set(names)
        with refs.edit("up", now, "push") as edit:
            for ref, old, new in changes:
                if new is None:
                    edit.delete(ref, old=old)
                else:
                    edit.point(ref, new, old=old)
            edit.finish()
        self.assertEqual(push(repo, other, commands, "up", now=now, **terms), answers)
        things = {**before["things"], **{name: store[name] for name in needed}}
        self.assertEqual(snapshot(other), {
            "things": {name: things[name] for name in sorted(things)},
            "ticks": {**before["ticks"], **{name: now for name in needed}},
            "refs": refs.state(), "cuts": before["cuts"], "holds": before["holds"]})
        self.check_same(repo, own)
        self.check_whole(other)
        return answers


class Pair(TransferCase):
    """A repository with some history, tags and trees, and an empty one."""

    def setUp(self):
        disk = self.disk = Disk()
        repo = self.repo = Repo(disk)
        self.one = repo.commit(TEXTS, author="ann", now=1)
        self.two = repo.commit({**TEXTS, "e": ("file", "z")}, author="ann", now=2)
        self.side = repo.commit({"q": ("file", "q")}, author="ann", now=3, parents=(self.one,))
        self.tag = repo.put(Tag(self.side, label="v1"), now=4)
        self.tree = repo.put(Tree({"t": ("file", repo.put(Blob("t"), now=4))}), now=4)
        self.blob = repo.put(Blob("b"), now=4)

        def change(edit):
            edit.point("main", self.two)
            edit.point("tags/v1", self.tag)
            edit.point("tree", self.tree)
            edit.point("blob", self.blob)
            edit.point("far/x/y", self.side)

        edited(repo, change)
        self.empty_disk = Disk()
        self.empty = Repo(self.empty_disk)


class Fetches(Pair):
    def test_into_an_empty_repository_and_again_at_once(self):
        for single in (False, True):
            empty = new_repo()
            self.assertEqual(len(self.check_fetch(empty, self.repo, "up", 9, single)), 5)
            self.assertEqual(table_of(empty), {
                "far/up/blob": self.blob, "far/up/main": self.two, "far/up/tags/v1": self.tag, "far/up/tree": self.tree})
            self.assertEqual(empty.references().log("far/up/main"), [(None, self.two, "up", 9, "fetch")])
            before = snapshot(empty)
            self.assertEqual(len(self.check_fetch(empty, self.repo, "up", 10, single)), 1)
            self.check_same(empty, before)

    def test_moves_deletions_and_new_references(self):
        repo, empty = self.repo, self.empty
        self.check_fetch(empty, repo, "up", 9)
        repo.commit({"n": ("file", "n")}, author="ann", now=10)

        def change(edit):
            edit.delete("tree")
            edit.delete("tags/v1")
            edit.point("tags", self.one)
            edit.point("new/x/y/z", self.tag)
            edit.point("blob", self.tree)

        edited(repo, change)
        self.check_fetch(empty, repo, "up", 11)
        self.assertEqual(empty.references().names(), (
            "far/up/blob", "far/up/main", "far/up/new/x/y/z", "far/up/tags"))
        self.assertEqual(len(empty.references().log("far/up/tree")), 2)
        self.check_fetch(empty, repo, "other", 12)
        self.check_fetch(empty, new_repo(), "up", 13)
        self.assertEqual({ref[:10] for ref in empty.references().names()}, {"far/other/"})
        self.assertEqual(empty.references().log("far/up/main")[-1][1:], (None, "up", 13, "fetch"))

    def test_words_that_begin_alike(self):
        for word in ("up", "up-2", "u", "far"):
            self.check_fetch(self.empty, self.repo, word, 9)
        edited(self.repo, lambda edit: edit.delete("main"))
        self.check_fetch(self.empty, self.repo, "up", 10)
        self.assertEqual(len(self.empty.references()), 15)

    def test_head_of_a_reference_below_far(self):
        self.check_fetch(self.empty, self.repo, "up", 9)
        edited(self.empty, lambda edit: edit.stand("ref", "far/up/main"))
        self.repo.commit({"n": ("file", "n")}, author="ann", now=10)
        self.check_fetch(self.empty, self.repo, "up", 11)
        self.assertEqual(self.empty.references().log("HEAD")[-1][2:], ("up", 11, "fetch"))
        edited(self.repo, lambda edit: edit.delete("main"))
        self.check_fetch(self.empty, self.repo, "up", 12)
        self.assertEqual(self.empty.references().log("HEAD")[-1][1:], (None, "up", 12, "fetch"))

    def test_what_is_below_far_is_had_and_is_not_shown(self):
        self.check_fetch(self.empty, self.repo, "up", 9)
        third = new_repo()
        self.assertEqual(len(self.check_fetch(third, self.empty, "e", 10)), 1)
        self.assertEqual(third.references().names(), ())
        edited(self.empty, lambda edit: edit.point("main", self.side))
        self.assertEqual(len(self.check_fetch(self.repo, self.empty, "e", 11)), 1)
        self.assertEqual(self.repo.references()["far/e/main"], self.side)

    def test_objects_that_nothing_reaches_are_put_anew(self):
        self.check_fetch(self.empty, self.repo, "up", 9)
        edited(self.empty, lambda edit: [edit.delete(ref) for ref in table_of(self.empty)] and None)
        self.assertEqual(len(self.check_fetch(self.empty, self.repo, "up", 30)), 5)
        self.assertEqual({self.empty.tick(name) for name in self.empty.stored().ids()}, {30})

    def test_the_log_and_the_ticks(self):
        self.check_fetch(self.empty, self.repo, "up", 10 ** 12)
        self.check_fetch(self.empty, self.repo, "up", 0)
        self.assertEqual(self.empty.tick(self.one), 10 ** 12)
        self.assertEqual(fetch(repo=new_repo(), other=self.repo, word="w", now=0, single=False, depth=None, letters=None),
                         tuple(sorted([self.one, self.two, self.side])))

    def test_depths(self):
        for depth in (1, 2, 3, 200):
            disk = Disk()
            self.check_fetch(Repo(disk), self.repo, "up", 9, depth=depth)
            self.check_same(Repo(copied(disk)), snapshot(Repo(disk)))
            for again in (1, 2, 3, None):
                self.check_fetch(Repo(copied(disk)), self.repo, "up", 10, depth=again)
        shallow = new_repo()
        self.check_fetch(shallow, self.repo, "up", 9, depth=1)
        self.assertEqual(shallow.cuts(), tuple(sorted([self.two, self.side])))
        edited(shallow, lambda edit: edit.point("main", self.two))
        further = new_repo()
        self.check_fetch(further, shallow, "s", 10)
        self.assertEqual(further.cuts(), (self.two,))
        self.check_fetch(self.repo, shallow, "s", 11)
        self.assertEqual(self.repo.cuts(), ())
        self.check_fetch(self.repo, shallow, "s", 12, depth=1)
        self.assertEqual(self.repo.cuts(), ())

    def test_cut_off_behind_each_number_of_letters(self):
        self.check_fetch(self.empty, self.repo, "up", 9)
        for at in range(4):
            self.repo.commit({"n": ("file", f"{at}")}, author="ann", now=10 + at)
        self.empty.commit({"m": ("file", "m")}, author="bob", now=10)
        letters = len(letters_of(side_of(self.repo), side_of(self.empty)))
        self.assertTrue(letters > 6)
        for many in range(letters):
            self.check_error(Cut, self.empty, lambda: fetch(self.empty, self.repo, "up", now=20, letters=many))
        before = snapshot(self.repo)
        for many in (letters, letters + 1, 10 ** 30):
            repo = Repo(copied(self.empty_disk))
            self.assertEqual(len(fetch(repo, self.repo, "up", now=20, letters=many)), 4)
        self.check_same(self.repo, before)
        full = new_repo()
        fetch(full, self.repo, "up", now=20)
        self.check_error(Cut, full, lambda: fetch(full, self.repo, "up", now=20, letters=0))
        self.assertEqual(fetch(full, self.repo, "up", now=20, letters=1), ())

    def test_locks(self):
        self.check_fetch(self.empty, self.repo, "up", 9)
        edited(self.repo, lambda edit: edit.delete("tree"))
        for ref in ("far/up/main", "far/up/tree", "far/up/blob/x", "far/up", "far"):
            edit = self.empty.edit("eve", 10, "")
            edit.delete(ref)
            self.check_error(Locked, self.empty, lambda: fetch(self.empty, self.repo, "up", now=11), ref=ref)
            self.check_error(Cut, self.empty, lambda: fetch(self.empty, self.repo, "up", now=11, letters=0))
            edit.drop()
        edit = self.empty.edit("eve", 10, "")
        edit.point("far/u", self.one)
        edit.point("far/up-/main", self.one)
        edit.stand("ref", "x")
        self.check_fetch(self.empty, self.repo, "up", 11)
        edit.finish()
        other = self.repo.edit("eve", 12, "")
        other.point("main", self.one)
        self.check_fetch(self.empty, self.repo, "up", 13)

    def test_references_in_the_way(self):
        empty = self.empty
        for ref in ("far", "far/up", "far/up/main/x"):
            blob = empty.put(Blob("a"), now=1)
            edited(empty, lambda edit: edit.point(ref, blob))
            if ref == "far/up/main/x":
                self.check_fetch(empty, self.repo, "up", 11)
            else:
                self.check_error(BadRef, empty, lambda: fetch(empty, self.repo, "up", now=11))
                edited(empty, lambda edit: edit.delete(ref))

    def test_errors_and_their_order(self):
        repo, empty = self.repo, self.empty
        call = lambda word="up", now=9, **more: fetch(empty, repo, word, now=now, **more)
        for thing in NO_WORDS:
            self.check_error(BadName, empty, lambda: call(thing, depth=0))
        for thing in NO_TIMES:
            self.check_error(BadName, empty, lambda: call(now=thing, depth=0))
        for thing in NO_LIMITS:
            self.check_error(BadName, empty, lambda: call(letters=thing, depth=0))
        for thing in NO_DEPTHS:
            self.check_error(BadCommand, empty, lambda: call(depth=thing, letters=0))
        self.assertEqual(len(call(depth=200, letters=5)), 3)

    def test_many_references(self):
        repo = self.repo
        edited(repo, lambda edit: [edit.point(f"r{at}/x", (self.one, self.two, self.tag)[at % 3]) for at in range(16)] and None)
        self.check_fetch(self.empty, repo, "up", 9)
        self.assertEqual(len(self.empty.references()), 20)


class Pushes(Pair):
    def setUp(self):
        super().setUp()
        repo = self.repo
        edited(repo, lambda edit: edit.point("main", self.two))
        self.clone_disk = Disk()
        self.clone = Repo(self.clone_disk)
        fetch(self.clone, repo, "up", now=5)
        self.clone.merge(self.two, author="bob", now=6)
        self.new = self.clone.commit({**TEXTS, "n": ("file", "new")}, author="bob", now=7)
        self.newer = self.clone.commit({"n": ("file", "newer")}, author="bob", now=8)

    def check(self, commands, wanted, **terms):
        other = Repo(copied(self.disk))
        self.assertEqual(self.check_push(self.clone, other, commands, **terms), wanted)
        return other

    def test_each_answer(self):
        one, two, new = self.one, self.two, self.new
        self.check([("main", two, new)], ("ok",))
        self.check([("main", two, two), ("none", one, None)], ("ok", "ok"))
        self.check([("main", one, new), ("new", two, new)], ("stale", "stale"))
        self.check([("new", None, new)], ("ruled",), rules=("no-create",))
        self.check([("blob", self.blob, None)], ("ruled",), rules=("no-delete",))
        self.check([("main", two, one)], ("not-forward",))
        self.check([("main", two, one)], ("ok",), force=("main",))
        self.check([("main", two, one)], ("ruled",), force=("main",), rules=("no-force",))
        self.check([("main/x", None, new), ("main", two, new)], ("clash", "ok"))
        self.check([("main", two, None), ("main/x", None, new)], ("ok", "ok"))
        self.check([("main", two, new), ("blob", one, None)], ("held", "stale"), atomic=True)
        self.check([("main", two, new), ("blob", self.blob, None)], ("ok", "ok"), atomic=True)
        self.check([], ())
        self.check((("far/a/b", None, new),), ("ok",))

    def test_logs_and_head(self):
        other = self.check([("main", self.two, self.newer), ("x", None, self.tag), ("tree", self.tree, None)], ("ok",) * 3)
        refs = other.references()
        entry = (self.two, self.newer, "up", 50, "push")
        self.assertEqual((refs.log("main")[-1], refs.log("HEAD")[-1]), (entry, entry))
        self.assertEqual(refs.log("x"), [(None, self.tag, "up", 50, "push")])
        self.assertEqual(refs.log("tree")[-1], (self.tree, None, "up", 50, "push"))

    def test_which_objects_arrive(self):
        """Only what accepted commands need, and nothing that the other one has."""
        before = set(self.repo.stored().ids())
        other = self.check([("main", self.two, self.new), ("x", self.one, self.newer)], ("ok", "stale"))
        arrived = set(other.stored().ids()) - before
        self.assertIn(self.new, arrived)
        self.assertNotIn(self.newer, arrived)
        self.assertEqual(len(arrived), 3)
        other = self.check([("x", self.one, self.newer)], ("stale",))
        self.assertEqual(set(other.stored().ids()), before)

    def test_objects_that_are_there_without_a_reference(self):
        """They are in the parcel, and are put anew."""
        other = Repo(copied(self.disk))
        edited(other, lambda edit: edit.delete("main"))
        self.check_push(self.clone, other, [("main", None, self.two)], now=60)
        self.assertEqual((other.tick(self.two), other.tick(self.one)), (60, 1))

    def test_shallow_sides(self):
        """The receiver's cut counts for the answers; a shallow sender lacks what a whole receiver would need."""
        shallow = new_repo()
        fetch(shallow, self.clone, "c", now=9, depth=1)
        self.assertEqual(shallow.cuts(), (self.newer,))
        newest = shallow.commit({"s": ("file", "s")}, author="eve", now=10, parents=(self.newer,))
        self.assertEqual(self.check_push(shallow, Repo(copied(self.disk)), [("x", None, newest)]), ("missing",))
        self.assertEqual(self.check_push(shallow, new_repo(), [("x", None, newest)]), ("missing",))
        clone = Repo(copied(self.clone_disk))
        self.assertEqual(self.check_push(shallow, clone, [("x", None, newest), ("main", self.newer, newest)]), ("ok", "ok"))
        other = new_repo()
        fetch(other, self.clone, "c", now=9, depth=1)
        self.assertEqual(self.check_push(shallow, other, [("x", None, newest)]), ("ok",))
        self.assertEqual(self.check_push(self.clone, other, [("x", newest, self.newer)], force=("x",)), ("ok",))
        # What a shown commit reaches is not sent, though here the receiver's cut has kept it away.
        self.assertEqual(self.check_push(self.clone, other, [("y", None, self.new)]), ("missing",))

    def test_locks(self):
        other = Repo(copied(self.disk))
        edit = other.edit("eve", 9, "")
        edit.point("main/x", self.one)
        call = lambda commands, **more: push(self.clone, other, commands, "up", now=10, **more)
        self.check_error(Locked, other, call, [("x", None, self.new), ("main", self.two, self.new)], ref="main/x")
        self.check_error(Cut, other, lambda: call([("main", self.two, self.new)], letters=0))
        # The answers would get lost, whatever they are: `Cut` goes ahead of `Locked`.
        self.check_error(Cut, other, lambda: call([("main", self.two, self.new)], letters=1))
        self.check_error(NoObject, other, call, [("main", self.two, ONE)], name=ONE)
        self.assertEqual(self.check_push(self.clone, other, [("main", self.one, self.new)]), ("stale",))
        self.assertEqual(self.check_push(self.clone, other, [("x", None, self.new)]), ("ok",))
        edit.drop()
        edit = other.edit("eve", 9, "")
        edit.stand("ref", "y")
        self.assertEqual(self.check_push(self.clone, other, [("main", self.two, self.new)]), ("ok",))

    def test_cut_off_and_repeated(self):
        commands = [("main", self.two, self.newer), ("tree", self.tree, None), ("x", self.one, self.two)]
        call = lambda other, **more: push(self.clone, other, commands, "up", now=50, **more)
        answered = Repo(copied(self.disk))
        wanted = call(answered, letters=2)
        self.assertEqual(wanted, ("ok", "ok", "stale"))
        for letters in itertools.product((0, 1), repeat=3):
            other = Repo(copied(self.disk))
            own = snapshot(self.clone)
            done = False
            for many in letters:
                before = snapshot(other)
                self.assert_error(Cut, lambda: call(other, letters=many))
                if many == 0 or done:
                    self.check_same(other, before)
                done = done or many == 1
                if done:
                    self.check_same(other, snapshot(answered))
            self.assertEqual(call(other, letters=10 ** 30), wanted)
            self.check_same(other, snapshot(answered))
            self.check_same(self.clone, own)
        for many in (0, 1):
            self.check_error(Cut, answered, lambda: push(self.clone, answered, [], "up", now=50, letters=many))

    def test_errors_and_their_order(self):
        other = Repo(copied(self.disk))
        fine = {"word": "up", "now": 9, "rules": (), "force": (), "atomic": False, "letters": 0}
        lost = [("x", None, ONE), ("y", None, MOST)]

        def call(commands, **more):
            return lambda: push(self.clone, other, commands, **{**fine, **more})

        wrong = {"word": NO_WORDS, "now": NO_TIMES, "letters": NO_LIMITS,
                 "rules": [("no-such",), ["no-force"], None, ("no-force", "no-force")],
                 "force": [("A",), ["a"], None, (1,)], "atomic": [None, 0, 1, "True"]}
        for word in wrong:
            for thing in wrong[word]:
                self.check_error(BadName, other, call(lost, **{word: thing}))
                self.check_error(BadCommand, other, call([("x", None, None)], **{word: thing}))
        for thing in odd_things():
            if thing not in ((), []):
                self.check_error(BadCommand, other, call(thing))
        self.check_error(NoObject, other, call(lost), name=ONE)
        self.check_error(NoObject, other, call([("x", ONE, MOST), ("y", None, TWO)]), name=TWO)
        self.check_error(Cut, other, call([("x", None, self.new)]))

    def test_commands_may_be_given_by_name(self):
        other = Repo(copied(self.disk))
        self.assertEqual(push(repo=self.clone, other=other, commands=[("main", self.two, self.new)], word="up", now=9,
                              rules=(), force=(), atomic=True, letters=None), ("ok",))


class Orders(TransferCase):
    def test_parts_come_ahead_of_what_names_them(self):
        """The order in which fetches and pushes put objects, whatever the order in which they are given."""
        for seed in range(20):
            numbers = chance(seed)
            store, names = Store(), []
            for at in range(12):
                blob = store.put(Blob(f"{next(numbers) % 6}"))
                tree = store.put(Tree({"a": ("file", blob), "d": ("dir", store.put(Tree({"b": ("exec", blob)})))}))
                parents = sorted({names[next(numbers) % at] for _ in range(next(numbers) % 3) if at})
                names.append(store.put(Commit(tree, tuple(parents), author="ann", time=at)))
            store.put(Tag(store.put(Tag(names[-1], label="v1")), label="v2"))
            ids = sorted(store.ids(), key=lambda _: next(numbers))[:40]
            ordered = parts_first({name: store[name] for name in ids})
            self.assertEqual(ordered, {name: store[name] for name in ids})
            seen = set()
            for name in ordered:
                seen.add(name)
                self.assertEqual([part for part in parts(store, name) if part in ordered and part not in seen], [])


class Drawn(TransferCase):
    def test_drawn_fetches_and_pushes(self):
        for seed in range(60):
            numbers = chance(seed)
            disks = [Disk() for _ in range(3)]
            repos = [Repo(disk) for disk in disks]
            for at in range(22):
                first = next(numbers) % 3
                repo, other = repos[first], repos[(first + next(numbers) % 2 + 1) % 3]
                self.draw(numbers, at, repo, other)
                for disk, one in zip(disks, repos):
                    if next(numbers) % 6 == 0:
                        self.check_same(Repo(copied(disk)), snapshot(one))

    def draw(self, numbers, at, repo, other):
        commits = [name for name in repo.stored().ids() if isinstance(repo.stored()[name], Commit)]
        word = next(numbers) % 7
        if word < 2 or not commits:
            parents = tuple(sorted({commits[next(numbers) % len(commits)] for _ in range(next(numbers) % 3) if commits}))
            repo.commit({f"f{at % 4}": ("file", f"{at}")}, author="ann", now=at, parents=parents)
        elif word == 2:
            name = commits[next(numbers) % len(commits)]
            name = repo.put(Tag(name, label="v1"), now=at) if at % 3 == 0 else name
            edited(repo, lambda edit: edit.point(f"r{next(numbers) % 3}", name), at)
        elif word == 3 and next(numbers) % 2:
            collect(repo, now=at, grace=next(numbers) % 6)
        elif word < 6:
            depth = next(numbers) % 4 + 1 if next(numbers) % 3 == 0 else None
            self.check_fetch(repo, other, f"w{next(numbers) % 2}", at, at % 2 == 0, depth)
        else:
            mine, theirs = table_of(repo), table_of(other)
            commands = []
            for ref in ("main", "r0", "r1", "p/q", "main/x"):
                new = mine.get("main" if ref[0] == "p" else ref) if next(numbers) % 4 else None
                old = theirs.get(ref) if next(numbers) % 4 else commits[0]
                if old or new:
                    commands.append((ref, old, new))
            self.check_push(repo, other, commands, at, force=("r0", "main")[:next(numbers) % 3],
                            atomic=next(numbers) % 4 == 0)


if __name__ == "__main__":
    unittest.main()
