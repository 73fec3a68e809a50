"""[13] Commands, rules, the answers of a receiver, what is accepted, and parcels."""

import itertools
import unittest

from forkhaul.errors import BadCommand, BadName, NoObject
from forkhaul.objects import Blob, Commit, Tag, Tree
from forkhaul.pushing import accepted, judge, parcel
from forkhaul.refs import Refs
from forkhaul.store import Store
from tests.helpers import MOST, ONE, TWO, ZERO, Case, World, chance, no_names, odd_things
from tests.transfers import commits_in, reach

RULES = ("no-create", "no-delete", "no-force")
FINE = [("a", None, ONE)]


def refs_of(table):
    refs = Refs()
    with refs.edit("ann", 1, "") as edit:
        for ref in table:
            edit.point(ref, table[ref])
        edit.finish()
    return refs


def table_of(refs):
    return {ref: refs[ref] for ref in refs.names()}


def answers_of(store, table, commands, cut=(), rules=(), force=(), atomic=False):
    """The answers and the accepted commands, by the list of the document."""
    table, answers, done = dict(table), [], []
    for ref, old, new in commands:
        present = table.get(ref)
        others = [name for name in table if name != ref and (name.startswith(ref + "/") or ref.startswith(name + "/"))]
        below = reach(store, [new], cut) if new else set()
        line = [new] if new in store and isinstance(store[new], Commit) else []
        for name in line:
            line += [parent for parent in (() if name in cut else store[name].parents)
                     if parent not in line and parent in store and isinstance(store[parent], Commit)]
        back = old and new and old not in line
        if present == new:
            answers.append("ok")
        elif present != old:
            answers.append("stale")
        elif old is None and "no-create" in rules or new is None and "no-delete" in rules:
            answers.append("ruled")
        elif [name for name in below if name not in store]:
            answers.append("missing")
        elif back and ref not in force:
            answers.append("not-forward")
        elif back and "no-force" in rules:
            answers.append("ruled")
        elif new and others:
            answers.append("clash")
        else:
            answers.append("ok")
            done.append((ref, old, new))
            table[ref] = new
            table = {name: table[name] for name in table if table[name]}
    if atomic and set(answers) - {"ok"}:
        return tuple(["held" if answer == "ok" else answer for answer in answers]), ()
    return tuple(answers), tuple(done)


class Sample(Case):
    """A line of three commits, a side of it, and objects of other kinds."""

    def setUp(self):
        world = self.world = World()
        self.store = world.store
        self.one = world.commit("one")
        self.two = world.commit("two", self.one)
        self.three = world.commit("three", self.two)
        self.side = world.commit("side", self.one)
        self.blob = self.store.put(Blob("a"))
        self.tag = self.store.put(Tag(self.three, label="v1"))
        self.lost = world.commit("lost", ONE)

    def ask(self, commands, table=(), **more):
        refs = refs_of(dict(table))
        state, ids, given = refs.state(), self.store.ids(), list(commands)
        answers = judge(self.store, refs, commands, **more)
        changes = accepted(self.store, refs, commands, **more)
        self.assertEqual((answers, changes), answers_of(self.store, dict(table), commands, **more))
        self.assertEqual((type(answers), type(changes)), (tuple, tuple))
        self.assertEqual((refs.state(), self.store.ids(), list(commands)), (state, ids, given))
        return answers


class Arguments(Sample):
    def calls(self, commands, **more):
        return (lambda: judge(self.store, Refs(), commands, **more), lambda: accepted(self.store, Refs(), commands, **more))

    def test_wrong_commands(self):
        wrong = [thing for thing in odd_things() if thing not in ((), [])]
        rows = [("a", None), ("a", None, ONE, TWO), ["a", None, ONE], ("A", None, ONE), ("far", None, "1"), ("a", None, None),
                ("a", "", ONE), ("a", ONE, ""), ("a", ONE[1:], ONE), ("a/b/c/d/e/f", None, ONE), ("HEAD", None, ONE), None]
        wrong += [[row] for row in rows] + [(row, ("b", None, ONE)) for row in rows] + [[("b", None, ONE), row] for row in rows]
        for thing in odd_things():
            wrong += [[thing], (thing,), [(thing, None, ONE)], [("a", ONE, thing)] if thing is not None else [thing],
                      [("a", thing, ONE)] if thing is not None else [thing]]
        wrong += [[("a", None, ONE), ("a", None, ONE)], (("a", ONE, None), ("b", ONE, None), ("a", None, TWO)),
                  [(f"r{at}", None, ONE) for at in range(41)], {"a": 1}, {("a", None, ONE)}, iter(FINE)]
        for commands in wrong:
            for more in ({}, {"cut": None, "rules": None, "force": None, "atomic": None}):
                for call in self.calls(commands, **more):
                    self.assert_error(BadCommand, call)
            self.assert_error(BadCommand, parcel, self.store, commands, None)
            self.assert_error(BadCommand, lambda: parcel(self.store, commands, (), cut=None))

    def test_right_commands(self):
        for commands in ((), [], [(f"r{at}", ONE, None) for at in range(40)], (("far/a/b/c/d/e/f", ONE, TWO),)):
            self.assertEqual(judge(self.store, Refs(), commands), tuple(
                ["ok" if new is None else "stale" for _, _, new in commands]))

    def test_wrong_terms(self):
        wrong = {
            "cut": no_names(),
            "rules": [thing for thing in odd_things() if thing != ()] + [
                "no-force", ["no-force"], ("no-force", "no-force"), ("no-such",), (None,), ([],), ("no-force", {})],
            "force": [thing for thing in odd_things() if thing != ()] + [
                "a", ["a"], ("A",), ("a", None), ([],), ({"a"},), ("a/b/c/d/e/f",), ("HEAD",), ("",)],
            "atomic": [thing for thing in odd_things() if not isinstance(thing, bool)],
        }
        for word in wrong:
            for thing in wrong[word]:
                for call in self.calls(FINE, **{word: thing}):
                    self.assert_error(BadName, call)
        for rules in itertools.permutations(RULES):
            self.assertEqual(judge(self.store, Refs(), [], rules=rules), ())
        self.assertEqual(judge(self.store, Refs(), [], force=("a", "a", "far/x")), ())

    def test_names_of_arguments(self):
        more = {"cut": (), "rules": (), "force": (), "atomic": False}
        refs = Refs()
        self.assertEqual(judge(store=self.store, refs=refs, commands=[("a", None, self.one)], **more), ("ok",))
        self.assertEqual(accepted(store=self.store, refs=refs, commands=[("a", None, self.one)], **more), (
            ("a", None, self.one),))
        self.assertEqual(parcel(store=self.store, commands=[("a", None, self.blob)], shown=(), cut=()), (self.blob,))


class Answers(Sample):
    def check(self, wanted, command, table=(), **more):
        self.assertEqual(self.ask([command], table, **more), (wanted,))

    def test_ok_since_it_is_so_already(self):
        table = {"a": self.two}
        for old in (None, self.one, self.two, ONE):
            self.check("ok", ("a", old, self.two), table, rules=RULES)
        for old in (ONE, self.two):
            self.check("ok", ("b", old, None), table, rules=RULES)
        self.check("ok", ("a", None, ONE), {"a": ONE})

    def test_stale(self):
        for old in (None, self.one, ONE):
            self.check("stale", ("a", old, self.three), {"a": self.two}, rules=RULES)
        self.check("stale", ("a", self.one, self.two), {"b": self.one})
        self.check("stale", ("a", self.one, None), {"a": self.two})
        self.check("stale", ("a", None, ONE), {"a": self.two})

    def test_ruled(self):
        self.check("ruled", ("a", None, self.one), rules=("no-create",))
        self.check("ruled", ("a", None, ONE), rules=("no-force", "no-create"))
        self.check("ok", ("a", None, self.one), rules=("no-delete", "no-force"))
        self.check("ruled", ("a", self.one, None), {"a": self.one}, rules=("no-delete",))
        self.check("ok", ("a", self.one, None), {"a": self.one}, rules=("no-create", "no-force"))
        self.check("ok", ("a", self.one, self.two), {"a": self.one}, rules=RULES)

    def test_missing(self):
        self.check("missing", ("a", None, ONE))
        self.check("missing", ("a", None, self.lost))
        self.check("missing", ("a", self.one, self.lost), {"a": self.one}, force=("a",))
        self.check("ok", ("a", None, self.lost), cut=(self.lost,))
        tree = self.store.put(Tree({"a": ("file", TWO)}))
        self.check("missing", ("a", None, tree))
        odd = self.store.put(Commit(tree, (self.one,), author="ann", time=1))
        self.check("missing", ("a", None, odd), cut=(odd,))
        self.check("missing", ("a", None, self.store.put(Tag(ONE, label="v1"))))
        self.assertEqual(self.ask([("a", None, self.lost), ("b", None, self.three), ("c", None, self.lost), (
            "d", None, self.world.commit("upper", self.three, self.lost))]), ("missing", "ok", "missing", "missing"))

    def test_not_forward(self):
        for old, new in ((self.two, self.one), (self.two, self.side), (self.side, self.two), (self.three, self.one)):
            self.check("not-forward", ("a", old, new), {"a": old})
            self.check("not-forward", ("a", old, new), {"a": old}, force=("b", "a/b"), rules=("no-force",))
            self.check("ok", ("a", old, new), {"a": old}, force=("b", "a"))
            self.check("ruled", ("a", old, new), {"a": old}, force=("a",), rules=("no-force",))
        for old, new in ((self.one, self.three), (self.one, self.two), (self.one, self.side)):
            self.check("ok", ("a", old, new), {"a": old}, rules=("no-force",))

    def test_tags_and_other_kinds_are_never_forward(self):
        other = self.store.put(Tag(self.tag, label="v2"))
        for old, new in ((self.one, self.tag), (self.tag, self.three), (self.tag, other), (self.blob, self.one),
                         (self.one, self.blob), (self.world.tree, self.blob), (ONE, self.three)):
            self.check("not-forward", ("a", old, new), {"a": old})
            self.check("ok", ("a", old, new), {"a": old}, force=("a",))
        self.check("ok", ("a", None, self.tag))

    def test_forward_with_a_cut(self):
        self.check("not-forward", ("a", self.one, self.three), {"a": self.one}, cut=(self.two,))
        self.check("ok", ("a", self.two, self.three), {"a": self.two}, cut=(self.two,))
        self.check("not-forward", ("a", self.two, self.three), {"a": self.two}, cut=(self.three,))
        merge = self.world.commit("merge", self.two, self.side)
        self.check("ok", ("a", self.one, merge), {"a": self.one}, cut=(self.two, MOST))
        self.check("not-forward", ("a", self.one, merge), {"a": self.one}, cut=(self.two, self.side))

    def test_a_line_with_a_parent_that_is_no_commit(self):
        odd = self.world.commit("odd", self.blob, self.two)
        self.check("ok", ("a", self.one, odd), {"a": self.one})
        self.check("not-forward", ("a", self.blob, odd), {"a": self.blob})
        self.check("not-forward", ("a", self.side, odd), {"a": self.side})

    def test_clash(self):
        for ref in ("a", "a/b", "a/b/c/d"):
            self.check("clash", (ref, None, self.one), {"a/b/c": self.one})
        for ref in ("a/b/cc", "a/b-", "a-", "b", "a/b/c-/d", "a/c"):
            self.check("ok", (ref, None, self.one), {"a/b/c": self.one})
        self.check("ok", ("a/b/c", self.one, self.two), {"a/b/c": self.one})
        self.check("missing", ("a", None, ONE), {"a/b": self.one})
        self.check("ok", ("a", self.one, None), {"a": self.one, "a-": self.one})

    def test_a_command_stands_on_what_an_earlier_one_left(self):
        one, two, three = self.one, self.two, self.three
        table = {"a": one, "x/y": two}
        rows = (
            ([("a", one, None), ("a/b", None, two)], ("ok", "ok")),
            ([("a/b", None, two), ("a", one, None)], ("clash", "ok")),
            ([("b", None, one), ("b/c", None, one), ("b/c/d", None, two)], ("ok", "clash", "clash")),
            ([("x", None, one), ("x/y", two, None), ("x/z", None, one)], ("clash", "ok", "ok")),
            ([("x/y", two, None), ("x", None, three), ("a", one, three)], ("ok", "ok", "ok")),
            ([("a", one, ONE), ("a/b", None, one)], ("missing", "clash")),
        )
        for commands, answers in rows:
            self.assertEqual(self.ask(commands, table), answers)
            self.assertEqual(self.ask(tuple(commands), table), answers)

    def test_atomic(self):
        one, two = self.one, self.two
        table = {"a": one}
        self.assertEqual(self.ask([("a", one, two), ("b", None, ONE), ("c", ONE, None)], table, atomic=True), (
            "held", "missing", "held"))
        self.assertEqual(self.ask([("a", one, two), ("b", None, one)], table, atomic=True), ("ok", "ok"))
        self.assertEqual(self.ask([("a", None, one), ("b", ONE, None)], table, atomic=True), ("ok", "ok"))
        self.assertEqual(self.ask([], atomic=True), ())
        # A command is judged as though the ones before it were carried out, also where none is in the end.
        self.assertEqual(self.ask([("a", one, None), ("a/b", None, one), ("z", None, ONE)], table, atomic=True), (
            "held", "held", "missing"))

    def test_open_edits_of_the_references_do_not_matter(self):
        refs = refs_of({"a": self.one})
        edit = refs.edit("ann", 1, "")
        edit.point("a", self.two)
        self.assertEqual(judge(self.store, refs, [("a", self.one, self.three)]), ("ok",))
        edit.finish()


class Drawn(Sample):
    def test_rows_of_commands(self):
        refs = ("a", "a/b", "a/b/c", "b", "far/x/a", "b/a")
        for seed in range(120):
            numbers = chance(seed)
            world = self.world = World()
            self.store = world.store
            names = world.tossed(seed, 8)
            pool = [*names, *names, self.store.put(Tag(names[3], label="v1")), self.store.put(Blob("a")), ONE,
                    world.commit("lost", names[2], TWO)]
            table = {ref: pool[next(numbers) % 12] for ref in ("a/b/c", "b", "far/x/a") if next(numbers) % 2}
            for _ in range(8):
                commands, forward = [], dict(table)
                for ref in sorted(refs, key=lambda _: next(numbers))[:next(numbers) % 5 + 1]:
                    old = forward.get(ref) if next(numbers) % 5 else pool[next(numbers) % len(pool)]
                    new = pool[next(numbers) % len(pool)] if next(numbers) % 3 or old is None else None
                    commands.append((ref, old, new))
                more = {"cut": tuple([pool[next(numbers) % len(pool)] for _ in range(next(numbers) % 3)]),
                        "rules": RULES[next(numbers) % 4:][:next(numbers) % 2 + 1] if next(numbers) % 3 == 0 else (),
                        "force": refs[next(numbers) % 6:][:next(numbers) % 4]}
                for atomic in (False, True):
                    self.ask(commands, table, atomic=atomic, **more)
                self.check_orders(table, commands, **more)

    def check_orders(self, table, commands, **more):
        """[13.3] In one edit in each order, and one after another, with one result."""
        changes = accepted(self.store, refs_of(table), commands, **more)
        one_by_one = refs_of(table)
        for change in changes:
            with one_by_one.edit("ann", 2, "") as edit:
                self.carry(edit, change)
                edit.finish()
        for row in list(itertools.permutations(changes))[:24]:
            refs = refs_of(table)
            with refs.edit("ann", 2, "") as edit:
                for change in row:
                    self.carry(edit, change)
                edit.finish()
            self.assertEqual(table_of(refs), table_of(one_by_one))
        wanted = {**table, **{ref: new for ref, _, new in changes}}
        self.assertEqual(table_of(one_by_one), {ref: wanted[ref] for ref in sorted(wanted) if wanted[ref]})

    def carry(self, edit, change):
        ref, old, new = change
        if new is None:
            edit.delete(ref, old=old)
        else:
            edit.point(ref, new, old=old)


class Parcels(Sample):
    def full(self, seed):
        numbers = chance(seed)
        store, names = Store(), []
        for at in range(12):
            blob = store.put(Blob(f"{next(numbers) % 8}"))
            tree = store.put(Tree({"a": ("file", blob), "b": ("file", store.put(Blob(f"{at}")))}))
            picked = sorted({names[next(numbers) % at] for _ in range(next(numbers) % 4) if at})
            names.append(store.put(Commit(tree, tuple(picked), author="ann", time=1, message=f"{at}")))
        tag = store.put(Tag(names[-1], label="v1"))
        return store, names + [tag, store.put(Tag(tag, label="v2")), store[names[5]].tree], numbers

    def test_drawn_parcels(self):
        for seed in range(40):
            store, pool, numbers = self.full(seed)
            for _ in range(6):
                news = [pool[next(numbers) % len(pool)] for _ in range(3)]
                commands = [(f"r{at}", None, new) for at, new in enumerate(news)] + [("z", ONE, None)]
                shown = tuple([pool[next(numbers) % len(pool)] for _ in range(next(numbers) % 4)] + [MOST, TWO])
                cut = tuple([pool[next(numbers) % 12] for _ in range(next(numbers) % 3)] + [ZERO])
                wanted = reach(store, news, cut) - reach(store, [name for name in shown if name in store], cut)
                sent = parcel(store, commands, shown, cut=cut)
                self.assertEqual((set(sent), len(sent)), (wanted, len(wanted)))
                self.assertEqual(sent, tuple(store.walk(tuple(news), without=shown, cut=cut)))
                self.assertEqual(parcel(store, tuple(commands), shown[::-1], cut=cut), sent)

    def test_no_whole_senders_command_is_answered_with_missing(self):
        for seed in range(30):
            store, pool, numbers = self.full(seed)
            there = {f"s{at}": pool[next(numbers) % len(pool)] for at in range(2)}
            commands = [(f"r{at}", None, pool[next(numbers) % len(pool)]) for at in range(3)]
            receiver = Store()
            for name in reach(store, there.values()):
                receiver.put(store[name])
            other = receiver.put(Blob("other"))
            shown = (*there.values(), other)
            sent = parcel(store, commands, shown)
            self.assertEqual([name for name in sent if name in receiver], [])
            for name in sent:
                receiver.put(store[name])
            self.assertNotIn("missing", judge(receiver, refs_of(there), commands))

    def test_shown_ids_of_each_kind(self):
        blob, tree = self.blob, self.world.tree
        commands = [("a", None, self.three), ("b", None, self.tag), ("c", None, blob)]
        self.assertEqual(set(parcel(self.store, commands, ())), {self.tag, self.one, self.two, self.three, tree, blob})
        self.assertEqual(parcel(self.store, commands, (self.tag, blob)), ())
        self.assertEqual(parcel(self.store, commands, (self.two, ONE, blob, self.two)), (self.tag, self.three))
        self.assertEqual(set(parcel(self.store, commands, (tree,))), {self.tag, self.one, self.two, self.three, blob})
        self.assertEqual(parcel(self.store, [("a", self.one, None)], ()), ())
        self.assertEqual(commits_in(self.store, parcel(self.store, commands, (), cut=(self.two,))), {self.two, self.three})

    def test_errors_and_their_order(self):
        for thing in no_names():
            self.assert_error(BadName, parcel, self.store, [("a", None, ONE)], thing)
            self.assert_error(BadName, lambda: parcel(self.store, [("a", None, ONE)], (), cut=thing))
        self.assert_error(NoObject, parcel, self.store, [("a", None, self.lost), ("b", None, TWO)], (), name=ONE)
        self.assert_error(NoObject, parcel, self.store, [("b", None, TWO)], (), name=TWO)
        # An absent id of those that are shown is left out: it bars nothing.
        self.assert_error(NoObject, parcel, self.store, [("b", None, TWO)], (TWO,), name=TWO)
        self.assert_error(NoObject, parcel, self.store, [("a", None, self.lost)], (ONE, self.one), name=ONE)
        self.assertEqual(parcel(self.store, [("a", None, self.lost)], (self.lost,)), ())
        self.assertEqual(parcel(self.store, [("a", None, self.lost)], (self.one,), cut=(self.lost,)), (self.lost,))


if __name__ == "__main__":
    unittest.main()
