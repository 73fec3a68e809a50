"""[12.5] Letters out of turn and of another form, wrong packs, packs that lack something, and what comes behind."""

import unittest
from itertools import product

from forkhaul.codes import encode, id_of, sum_of
from forkhaul.errors import BadCommand, BadLetter, BadPack
from forkhaul.fetching import Client, Server, talk
from forkhaul.objects import Blob, Commit, Tag, Tree
from forkhaul.packs import pack
from forkhaul.store import Store
from tests.helpers import MOST, ONE, TWO, ZERO, Case, World, no_names, odd_things
from tests.transfers import Side, new_cut

NO_BYTES = [thing for thing in odd_things() if not isinstance(thing, bytes)]
NO_DEPTHS = [thing for thing in odd_things() if thing is not None and not (isinstance(thing, int) and thing == 1)] + [
    True, 0, 201, 10 ** 30, "1", -1]


def swapped(letter, at, thing):
    """The letter with another part."""
    return (*letter[:at], thing, *letter[at + 1:])


class Session(Case):
    """A server and a client that share some commits, stopped in front of each of their letters."""

    def setUp(self):
        world = self.world = World()
        self.store = world.store
        self.line = [world.commit("0")]
        for at in range(1, 6):
            self.line.append(world.commit(str(at), self.line[-1]))
        self.top = world.commit("top", self.line[-1])
        self.side = world.commit("side", self.line[1])
        self.tag = self.store.put(Tag(self.top, label="v1"))
        self.table = {"main": self.top, "tag": self.tag, "far/x/y": self.side, "old": self.line[2]}
        self.client_store = Store()
        for name in [world.tree, *self.line[:3]]:
            self.client_store.put(self.store[name])
        self.mine = self.client_store.put(Commit(world.tree, (self.line[2],), author="bob", time=1))
        # Reached by no reference of the client, but in its store.
        self.client_store.put(self.store[self.line[3]])

    def machines(self, **more):
        return Server(self.store, self.table, cut=(self.line[0],)), Client(self.client_store, {"main": self.mine}, **more)

    def letters(self, **more):
        server, client = self.machines(**more)
        return talk(client, server)

    def server_at(self, many, **more):
        """A new server behind so many letters of both sides, and the letter that it should get next."""
        letters = self.letters(**more)
        server, _ = self.machines()
        if many:
            server.greet()
        for at in range(1, many, 2):
            self.assertEqual(server.take(letters[at]), letters[at + 1])
        return server, letters[many] if many < len(letters) else None

    def client_at(self, many, **more):
        """A new client behind so many letters of both sides, and the letter that it should get next."""
        letters = self.letters(**more)
        _, client = self.machines(**more)
        for at in range(0, many, 2):
            self.assertEqual(client.take(letters[at]), letters[at + 1])
        return client, letters[many] if many < len(letters) else None

    def check_over(self, machine, right):
        """Behind an error every letter raises BadLetter, also the right ones."""
        for letter in [right, *self.letters(), ("ready",), ("done",), None]:
            self.assert_error(BadLetter, machine.take, letter)
        if isinstance(machine, Server):
            self.assert_error(BadLetter, machine.greet)
        else:
            for call in (machine.things, machine.heads, machine.cuts):
                self.assert_error(BadCommand, call)

    def check_wrong(self, machine_at, many, letter, error=BadLetter, **more):
        machine, right = machine_at(many, **more)
        self.assertNotEqual(letter, right)
        self.assert_error(error, machine.take, letter)
        self.check_over(machine, right)


class Servers(Session):
    def test_the_letters_of_the_session(self):
        words = [letter[0] for letter in self.letters()]
        self.assertEqual(words, ["heads", "want", "ready", "have", "common", "have", "common", "done", "pack"])

    def test_out_of_turn(self):
        letters = self.letters()
        for many in (1, 3, 5, 7):
            for letter in [*letters, ("ready",), ("common", ()), letters[0]]:
                _, right = self.server_at(many)
                if letter != right and not (letter[0] == "have" and right[0] in ("have", "done")) and not (
                        letter[0] == "done" and right[0] == "have"):
                    self.check_wrong(self.server_at, many, letter)

    def test_before_the_greeting(self):
        for letter in self.letters():
            server, _ = self.machines()
            self.assert_error(BadLetter, server.take, letter)
            self.check_over(server, letter)

    def test_greeting_twice(self):
        for many in (1, 3, 5, 7):
            server, right = self.server_at(many)
            self.assert_error(BadLetter, server.greet)
            self.check_over(server, right)

    def test_behind_the_end(self):
        server, _ = self.server_at(9)
        self.check_over(server, ("done",))

    def test_no_letters(self):
        for many in (1, 3, 5, 7):
            _, right = self.server_at(many)
            for thing in [*odd_things(), list(right), right[0], (*right, None), right[:-1], [right], (right,)]:
                self.check_wrong(self.server_at, many, thing)
            for thing in odd_things():
                self.check_wrong(self.server_at, many, swapped(right, 0, thing))

    def test_wants(self):
        letters = self.letters()
        want = letters[1]
        self.assertEqual(want, ("want", tuple(sorted([self.top, self.tag])), (), None))
        for thing in no_names():
            self.check_wrong(self.server_at, 1, swapped(want, 1, thing))
            self.check_wrong(self.server_at, 1, swapped(want, 2, thing))
        shown = sorted([self.top, self.tag])
        for ids in ((), (*shown[::-1],), (shown[0], shown[0]), (shown[0], self.side), (self.side,), (self.mine,), (ONE,),
                    (self.line[1],)):
            self.check_wrong(self.server_at, 1, swapped(want, 1, ids))
        for cut in ((TWO, ONE), (ONE, ONE), (ONE, TWO, TWO)):
            self.check_wrong(self.server_at, 1, swapped(want, 2, cut))
        for depth in NO_DEPTHS:
            self.check_wrong(self.server_at, 1, swapped(want, 3, depth))
        for right in (swapped(want, 1, tuple(sorted([self.top, self.line[2]]))), swapped(want, 2, (ZERO, ONE, MOST)),
                      swapped(want, 3, 1), swapped(want, 3, 200)):
            server, _ = self.server_at(1)
            self.assertEqual(server.take(right), ("ready",))

    def test_haves(self):
        many = [f"{at:016x}" for at in range(17)]
        for thing in [*no_names(), (), (ONE, ONE), (ONE, TWO, ONE), tuple(many), (self.world.tree,), (ONE, self.tag)]:
            for at in (3, 5):
                self.check_wrong(self.server_at, at, ("have", thing))
        for ids in ((self.mine,), (ONE, self.mine)):
            self.check_wrong(self.server_at, 5, ("have", ids))
        server, _ = self.server_at(3)
        self.assertEqual(server.take(("have", tuple(many[:16]))), ("common", ()))
        ids = (MOST, self.line[4], self.side, self.line[0], self.line[5])
        self.assertEqual(server.take(("have", ids)), ("common", ids[1:]))
        self.assertEqual(server.take(("done",))[0], "pack")

    def test_done_at_once(self):
        server, _ = self.server_at(3)
        self.assertEqual(server.take(("done",))[0], "pack")


class Clients(Session):
    def test_out_of_turn(self):
        for many in (0, 2, 4, 6, 8):
            _, right = self.client_at(many)
            for letter in [*self.letters(), ("done",), ("common", (ONE,))]:
                if letter != right and not (letter[0] == right[0] == "common"):
                    self.check_wrong(self.client_at, many, letter)

    def test_behind_the_end(self):
        client, last = self.client_at(8)
        self.assertIsNone(client.take(last))
        things = client.things()
        for letter in self.letters():
            self.assert_error(BadLetter, client.take, letter)
        self.assertEqual((client.things(), client.cuts()), (things, ()))
        client = Client(Store(), {})
        self.assertIsNone(client.take(("heads", ())))
        for letter in [("heads", ()), *self.letters()]:
            self.assert_error(BadLetter, client.take, letter)
        self.assertEqual((client.things(), client.heads(), client.cuts()), ([], (), ()))

    def test_no_letters(self):
        for many in (0, 2, 4, 6, 8):
            _, right = self.client_at(many)
            for thing in [*odd_things(), list(right), right[0], (*right, None), right[:-1], [right], (right,)]:
                self.check_wrong(self.client_at, many, thing)
            for thing in odd_things():
                self.check_wrong(self.client_at, many, swapped(right, 0, thing))

    def test_heads(self):
        top = self.top
        for thing in odd_things():
            if thing != ():
                self.check_wrong(self.client_at, 0, ("heads", thing))
            self.check_wrong(self.client_at, 0, ("heads", (thing,)))
            self.check_wrong(self.client_at, 0, ("heads", ((thing, top),)))
            self.check_wrong(self.client_at, 0, ("heads", (("main", thing),)))
        for rows in (
            [("main", top)], (["main", top],), (("main", top, top),), (("main",),), (("z", top), ("a", top)),
            (("a", top), ("a", top)), (("a", ONE), ("a", TWO)), (("far/a", top),), (("a", top), ("far/x/y", top)),
            (("A", top),), (("a/b/c/d/e/f", top),), (("HEAD", top),), (("a", top + "0"),), (("a", None),),
        ):
            self.check_wrong(self.client_at, 0, ("heads", rows))
        for rows in ((("a", ONE), ("a/b", ONE)), (("far", ONE), ("far-x/y", TWO)), (("a-", ONE), ("a/b", ONE))):
            _, client = self.machines()
            self.assertEqual(client.take(("heads", rows))[1], tuple(sorted({name for _, name in rows})))

    def test_commons(self):
        """The second "have" letter asks for two commits."""
        letters = self.letters()
        one, two = letters[5][1]
        for thing in [*no_names(), (two, one), (one, one), (self.mine,), (ONE,), (one, two, ONE), (one, two, two),
                      (one, self.line[0])]:
            self.check_wrong(self.client_at, 6, ("common", thing))
        for thing in ((one,), (one, two), (two,), ()):
            client, _ = self.client_at(6)
            self.assertIn(client.take(("common", thing))[0], ("have", "done"))

    def test_wrong_packs(self):
        _, right = self.client_at(8)
        data = right[1]
        for thing in NO_BYTES:
            self.check_wrong(self.client_at, 8, swapped(right, 1, thing), BadPack)
        faults = [b"", data[:-1], data + b"\n", data[:-16] + b"0" * 16, b"pack 0\n", b"pack x\n" + data, data.replace(
            b"author", b"auth0r", 1), b"P" + data[1:], data[:40]]
        first, second = sorted([(sum_of(encode(Blob(text))), encode(Blob(text))) for text in ("a", "b")])
        for rows in ([second, first], [first, first]):
            body = b"pack 2\n" + b"".join([f"{len(code)}\n".encode() + code for _, code in rows])
            faults.append(body + sum_of(body).encode())
        for fault in faults:
            self.check_wrong(self.client_at, 8, swapped(right, 1, fault), BadPack)
        client, _ = self.client_at(8)
        self.assert_error(BadPack, client.take, swapped(right, 1, data + b"\n"), at=len(data))

    def test_wrong_cuts(self):
        _, right = self.client_at(8)
        sent = sorted([self.top, self.line[5]])
        for thing in [*no_names(), tuple(sent[::-1]), (sent[0], sent[0]), (MOST, ZERO), (ONE, TWO, TWO)]:
            self.check_wrong(self.client_at, 8, swapped(right, 2, thing))
            self.check_wrong(self.client_at, 8, swapped(self.client_at(8, depth=9)[1], 2, thing), depth=9)
        client, _ = self.client_at(8)
        self.assertIsNone(client.take(swapped(right, 2, tuple(sent))))
        self.assertEqual(client.cuts(), tuple(sent))

    def cuts_of_all_kinds(self):
        """Ids of what was sent, of what the client had, of what is in its store or the server's, and of nothing."""
        alone = self.client_store.put(Commit(self.world.tree, (), author="cid", time=2))
        names = [self.top, self.tag, self.line[3], self.mine, self.line[1], self.world.tree, alone, self.side, ONE, MOST]
        return [(name,) for name in names] + [tuple(sorted(names)), tuple(sorted(names[::2])), tuple(sorted(names[1::2]))]

    def test_a_cut_names_any_ids(self):
        """Without a depth all of them get into the cut, and what was sent is the same."""
        for cut in self.cuts_of_all_kinds():
            for old in ((), (self.line[2], TWO)):
                client, right = self.client_at(8, cut=old)
                self.assertIsNone(client.take(swapped(right, 2, cut)))
                self.assertEqual(client.cuts(), tuple(sorted({*old, *cut})))
                self.assertEqual(pack(self.store, [id_of(thing) for thing in client.things()]), right[1])
                self.check_end(client, right)

    def test_a_cut_names_any_ids_with_a_depth(self):
        """Those of commits that the client had or was sent, with all of their parents, leave the cut; others stay."""
        leave = {self.top, self.mine, *self.line}
        for cut in self.cuts_of_all_kinds():
            for old in ((), (self.line[2], TWO)):
                client, right = self.client_at(8, cut=old, depth=9)
                self.assertIsNone(client.take(swapped(right, 2, cut)))
                # What lies behind an old cut was sent, too.
                self.assertEqual(client.cuts(), tuple(sorted({*old, *cut} - leave)))
                things = {id_of(thing): thing for thing in client.things()}
                side = Side(self.client_store, {"main": self.mine}, old)
                self.assertEqual(client.cuts(), new_cut(side, [swapped(right, 2, cut)], things, 9))
                self.check_end(client, right)

    def check_end(self, client, right):
        """The client is over, and gives what it was shown."""
        self.assertEqual(client.heads(), self.letters()[0][1])
        self.assert_error(BadLetter, client.take, right)

    def test_other_errors_with_a_cut_of_any_ids(self):
        """Only what lies behind a commit of the cut may lack: not the commit, and no part of anything else."""
        whole = [self.tag, self.top, *self.line[3:]]
        names = [self.tag, self.world.tree, self.mine, self.side, ONE, self.line[4]]
        for cut in [(name,) for name in names] + [(), tuple(sorted(names))]:
            for depth in (None, 9):
                for name in (self.tag, self.top, self.line[4], self.line[5]):
                    less = pack(self.store, [other for other in whole if other != name])
                    self.check_wrong(self.client_at, 8, ("pack", less, cut), depth=depth)
                for data in (b"", None, pack(self.store, whole)[:-1]):
                    self.check_wrong(self.client_at, 8, ("pack", data, cut), BadPack, depth=depth)

    def test_packs_that_lack_something(self):
        _, right = self.client_at(8)
        whole = (self.tag, self.top, *self.line[3:])
        for name in (self.tag, self.top, self.line[4], self.line[5]):
            less = pack(self.store, [other for other in whole if other != name])
            self.check_wrong(self.client_at, 8, swapped(right, 1, less))
        self.check_wrong(self.client_at, 8, swapped(right, 1, pack(self.store, ())))
        # What is in the client's store need not be sent, though its table does not reach it.
        client, _ = self.client_at(8)
        self.assertIsNone(client.take(swapped(right, 1, pack(self.store, (self.tag, self.top, *self.line[4:])))))
        self.assertEqual(len(client.things()), 4)

    def test_what_lies_behind_the_new_cut_may_lack(self):
        _, right = self.client_at(8)
        less = pack(self.store, (self.tag, self.top, self.line[5]))
        client, _ = self.client_at(8)
        self.assertIsNone(client.take(("pack", less, (self.line[5],))))
        self.assertEqual(client.cuts(), (self.line[5],))
        self.check_wrong(self.client_at, 8, ("pack", less, ()))
        client, _ = self.client_at(8, cut=(self.line[5],))
        self.assertIsNone(client.take(("pack", less, ())))

    def test_more_than_is_wanted(self):
        _, right = self.client_at(8)
        client, _ = self.client_at(8)
        store = self.store.copied()
        blob = store.put(Blob("more"))
        self.assertIsNone(client.take(swapped(right, 1, pack(store, (*self.line[3:], self.top, self.tag, blob)))))
        self.assertEqual(len(client.things()), 6)

    def test_a_tree_or_a_blob_that_lacks(self):
        store = Store()
        blob = store.put(Blob("a"))
        tree = store.put(Tree({"a": ("file", blob)}))
        commit = store.put(Commit(tree, author="ann", time=1))
        cuts = [(), (blob,), (tree,), (commit,), tuple(sorted([blob, tree, commit, ONE]))]
        for names in ((commit, tree), (commit, blob), (tree, blob), (blob,)):
            for cut, depth in product(cuts, (None, 3)):
                client = Client(Store(), {}, depth=depth)
                self.assertEqual(client.take(("heads", (("a", commit),))), ("want", (commit,), (), depth))
                client.take(("ready",))
                self.assert_error(BadLetter, client.take, ("pack", pack(store, names), cut))

    def test_talk_gives_errors_on(self):
        server, client = self.machines(depth=0)
        self.assert_error(BadLetter, talk, client, server)
        server, client = self.machines()
        server.greet()
        self.assert_error(BadLetter, talk, client, server)


if __name__ == "__main__":
    unittest.main()
