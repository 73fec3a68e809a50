"""[12], [14.2], [14.3] Fetches by letters: each letter in its turn, the queue, the pack, and the cuts."""

import unittest

from forkhaul.codes import id_of
from forkhaul.errors import BadCommand
from forkhaul.fetching import Client, Server, talk
from forkhaul.history import History
from forkhaul.objects import Blob, Commit, Tag, Tree
from forkhaul.packs import pack, unpack
from forkhaul.store import Store
from tests.helpers import ONE, Case, Diamond, World, chance
from tests.transfers import Side, commits_in, letters_of, new_cut, reach, starts_of


def copy_of(store, names):
    """A store with these objects of another one."""
    other = Store()
    for name in names:
        other.put(store[name])
    return other


class Fetches(Case):
    """Fetches whose letters are compared with those that are worked out in the test."""

    def check(self, server, client, single=False, depth=None):
        before = (server.store.ids(), client.store.ids(), dict(server.table), dict(client.table))
        giver = Server(server.store, server.table, cut=server.cut)
        taker = Client(client.store, client.table, cut=client.cut, single=single, depth=depth)
        letters = talk(taker, giver)
        self.assertEqual(letters, letters_of(server, client, single, depth))
        self.assertIs(type(letters), list)
        self.assertEqual(taker.heads(), server.rows())
        things = unpack(letters[-1][1]) if letters[-1][0] == "pack" else []
        self.assertEqual(taker.things(), things)
        by_id = {id_of(thing): thing for thing in things}
        self.assertEqual(taker.cuts(), new_cut(client, letters, by_id, depth))
        self.assertEqual((server.store.ids(), client.store.ids(), server.table, client.table), before)
        return letters, taker

    def grown(self, client, taker, word="other"):
        """The client's side behind a fetch."""
        store = client.store.copied()
        for thing in taker.things():
            store.put(thing)
        table = {**client.table, **{f"far/{word}/{ref}": name for ref, name in taker.heads()}}
        return Side(store, table, taker.cuts())

    def check_whole(self, side):
        """What a side has is there, and each commit of it has its parents or stands in the cut."""
        self.assertEqual(side.store.missing(tuple(side.table.values()), cut=side.cut), ())


class Turns(Diamond, Fetches):
    def test_each_letter_in_its_turn(self):
        client_store = copy_of(self.world.store, [self.world.tree, self.root])
        mine = client_store.put(Commit(self.world.tree, (self.root,), author="bob", time=9))
        server = Server(self.world.store, {"main": self.merge, "old": self.root})
        client = Client(client_store, {"main": mine})
        heads = server.greet()
        self.assertEqual(heads, ("heads", (("main", self.merge), ("old", self.root))))
        want = client.take(heads)
        self.assertEqual(want, ("want", (self.merge,), (), None))
        self.assertEqual(server.take(want), ("ready",))
        self.assertEqual(client.take(("ready",)), ("have", (mine,)))
        self.assertEqual(server.take(("have", (mine,))), ("common", ()))
        self.assertEqual(client.take(("common", ())), ("have", (self.root,)))
        self.assertEqual(server.take(letter=("have", (self.root,))), ("common", (self.root,)))
        self.assertEqual(client.take(letter=("common", (self.root,))), ("done",))
        last = server.take(("done",))
        self.assertEqual(last, ("pack", pack(self.world.store, (self.left, self.right, self.merge)), ()))
        self.assertIsNone(client.take(last))
        self.assertEqual(client.things(), unpack(last[1]))
        self.assertEqual(client.heads(), heads[1])
        self.assertEqual(client.cuts(), ())

    def test_single(self):
        side = Side(self.world.store, {"main": self.merge})
        other = Side(Store(), {"main": Store().put(Blob("a"))})
        other.store.put(Blob("a"))
        letters, _ = self.check(other, side, single=True)
        self.assertEqual([len(letter[1]) for letter in letters if letter[0] == "have"], [1, 1, 1, 1])
        letters, _ = self.check(other, side)
        self.assertEqual([len(letter[1]) for letter in letters if letter[0] == "have"], [1, 2, 1])

    def test_a_client_with_nothing(self):
        side = Side(self.world.store, {"main": self.merge})
        letters, client = self.check(side, Side(Store(), {}))
        self.assertEqual([letter[0] for letter in letters], ["heads", "want", "ready", "done", "pack"])
        self.assertEqual(len(client.things()), 5)
        self.check_whole(self.grown(Side(Store(), {}), client))

    def test_nothing_is_wanted(self):
        full = Side(self.world.store, {"main": self.merge})
        for server, client in (
            (Side(Store(), {}), Side(Store(), {})), (Side(Store(), {}), full),
            (Side(self.world.store, {"a": self.left, "b": self.world.tree}), full),
            (Side(self.world.store, {"far/a": self.merge}), Side(Store(), {})),
        ):
            client.cut = (self.right, self.left, self.right)
            letters, machine = self.check(server, client)
            self.assertEqual(len(letters), 1)
            self.assertEqual((machine.things(), machine.cuts()), ([], tuple(sorted([self.left, self.right]))))

    def test_tables(self):
        """References below `far/` are not shown, but what they name is had; objects of all kinds, one id twice."""
        store = self.world.store
        blob = store.put(Blob("a"))
        tree = store.put(Tree({"a": ("file", blob)}))
        tag = store.put(Tag(self.merge, label="v1"))
        outer = store.put(Tag(tag, label="v2"))
        odd = store.put(Tag(tree, label="v3"))
        table = {"far/x/main": self.right, "tree": tree, "far": self.left, "blob": blob, "tag": outer, "odd": odd,
                 "zz": outer, "fa/r": blob, "far-x": self.root}
        letters, _ = self.check(Side(store, table), Side(Store(), {}))
        self.assertEqual([ref for ref, _ in letters[0][1]], ["blob", "fa/r", "far", "far-x", "odd", "tag", "tree", "zz"])
        self.assertEqual(letters[1][1], tuple(sorted([tree, self.left, blob, outer, odd, self.root])))
        part = copy_of(store, reach(store, [self.left, blob]))
        letters, _ = self.check(Side(store, table), Side(part, {"far/y": self.left, "far/z/b": blob}))
        self.assertEqual(letters[1][1], tuple(sorted([tree, outer, odd])))
        self.assertEqual(letters[3], ("have", (self.left,)))
        letters, _ = self.check(Side(store, {"far/s/a": self.left, "main": self.right}), Side(part, {"a": self.left}))
        self.assertEqual(letters[4], ("common", (self.left,)))

    def test_objects_that_the_table_does_not_reach_are_not_had(self):
        store = self.world.store
        letters, client = self.check(Side(store, {"main": self.merge}), Side(store, {"main": self.left}))
        self.assertEqual(len(client.things()), 2)
        letters, _ = self.check(Side(store, {"main": self.right}), Side(store, {"main": self.left}))
        self.assertEqual(letters[4], ("common", ()))

    def test_the_tables_may_change_afterwards(self):
        table, other = {"main": self.merge}, {"main": self.root}
        wanted = letters_of(Side(self.world.store, dict(table)), Side(self.world.store, dict(other)))
        server, client = Server(self.world.store, table), Client(self.world.store, other)
        table["main"], table["x"], other["main"] = ONE, ONE, self.merge
        self.assertEqual(talk(client=client, server=server), wanted)

    def test_what_is_given_out_belongs_to_the_caller(self):
        server, client = Server(self.world.store, {"main": self.merge}), Client(Store(), {})
        letters = talk(client, server)
        things = client.things()
        client.things().clear()
        letters.clear()
        self.assertEqual(client.things(), things)

    def test_before_the_end(self):
        server, client = Server(self.world.store, {"main": self.merge}), Client(Store(), {})
        for letter in (server.greet(), ("ready",)):
            for call in (client.things, client.heads, client.cuts):
                self.assert_error(BadCommand, call)
            answer = client.take(letter)
        for call in (client.things, client.heads, client.cuts):
            self.assert_error(BadCommand, call)
        self.assertEqual(answer, ("done",))
        server.take(("want", (self.merge,), (), None))
        self.assertIsNone(client.take(server.take(answer)))
        self.assertEqual(len(client.things()), 5)


class Queues(Fetches):
    def test_how_many_are_asked(self):
        world = World()
        names = [world.commit("0")]
        for at in range(1, 70):
            names.append(world.commit(str(at), names[-1]))
        other = World().commit("other")
        store = World()
        store.commit("other")
        letters, _ = self.check(Side(store.store, {"main": other}), Side(world.store, {"main": names[-1]}))
        asked = [letter[1] for letter in letters if letter[0] == "have"]
        self.assertEqual([len(row) for row in asked], [1, 2, 4, 8, 16, 16, 16, 7])
        self.assertEqual([name for row in asked for name in row], names[::-1])
        letters, _ = self.check(Side(store.store, {"main": other}), Side(world.store, {"main": names[-1]}), single=True)
        self.assertEqual([letter[1] for letter in letters if letter[0] == "have"], [(name,) for name in names[::-1]])

    def test_generation_time_and_id(self):
        world = World()
        low = [world.commit(f"low{at}", time=9 - at // 2) for at in range(4)]
        high = [world.commit(f"high{at}", low[at], time=at % 2) for at in range(4)]
        store = copy_of(World().store, [])
        lone = store.put(Blob("lone"))
        table = {f"r{at}": name for at, name in enumerate(low[:2] + high)}
        letters, _ = self.check(Side(store, {"main": lone}), Side(world.store, table))
        asked = [name for letter in letters if letter[0] == "have" for name in letter[1]]
        wanted = [*sorted([high[1], high[3]]), *sorted([high[0], high[2]]), *sorted(low[:2]), *sorted(low[2:])]
        self.assertEqual(asked, wanted)

    def test_what_is_common_leaves_the_queue(self):
        world = World()
        line = [world.commit("0")]
        for at in range(1, 30):
            line.append(world.commit(str(at), line[-1]))
        tops = [world.commit("t0", line[-1]), world.commit("t1", line[-1], line[3])]
        server = World()
        server.store = copy_of(world.store, reach(world.store, [line[20]]))
        new = server.store.put(Commit(server.tree, (line[5],), author="ann", time=1))
        for single in (False, True):
            letters, _ = self.check(Side(server.store, {"a": line[20], "b": new}),
                                    Side(world.store, {"x": tops[0], "y": tops[1]}), single=single)
            asked = [name for letter in letters if letter[0] == "have" for name in letter[1]]
            self.assertEqual(len(asked), len(set(asked)))
        # With `single`, nothing below the first common commit is asked for.
        self.assertEqual(asked, [*sorted(tops), *line[20:][::-1]])

    def test_commons_end_at_the_cut(self):
        world = World()
        line = [world.commit("0")]
        for at in range(1, 9):
            line.append(world.commit(str(at), line[-1]))
        side = world.commit("side", line[2])
        server = copy_of(world.store, reach(world.store, [line[7]]))
        new = server.put(Commit(world.tree, (line[6],), author="bob", time=1))
        client = Side(world.store, {"a": line[8], "b": side}, (line[5],))
        letters, _ = self.check(Side(server, {"main": line[7], "n": new}), client, single=True)
        asked = [name for letter in letters if letter[0] == "have" for name in letter[1]]
        self.assertEqual(asked, [*sorted([line[8], side]), *sorted([line[7], line[2]])])

    def test_commits_named_by_tags_of_tags(self):
        world = World()
        root = world.commit("root")
        top = world.commit("top", root)
        tag = world.store.put(Tag(world.store.put(Tag(top, label="v1")), label="v2"))
        odd = world.store.put(Tag(world.tree, label="v3"))
        other = World()
        new = other.commit("new", other.commit("root"))
        letters, _ = self.check(Side(other.store, {"main": new}), Side(world.store, {"t": tag, "o": odd, "u": tag}))
        self.assertEqual(letters[3:7], [("have", (top,)), ("common", ()), ("have", (root,)), ("common", (root,))])

    def test_histories_at_the_bounds(self):
        world = World()
        pair = (world.commit("l0", time=1), world.commit("r0"))
        for at in range(1, 95):
            pair = (world.commit(f"l{at}", *pair, time=at % 7), world.commit(f"r{at}", *pair[::-1], time=at % 5))
        shared = copy_of(world.store, reach(world.store, pair[:1]))
        new = shared.put(Commit(world.tree, (pair[0],), author="bob", time=1))
        for single in (False, True):
            for server in (Side(shared, {"main": new}), Side(shared, {"main": new, "p": world.store[pair[0]].parents[1]})):
                self.check(server, Side(world.store, {"a": pair[0], "b": pair[1]}), single=single)
            self.check(Side(world.store, {"a": pair[1]}), Side(shared, {"main": new}), single=single)
            self.check(Side(world.store, {"a": pair[1], "b": pair[0]}), Side(Store(), {}), single=single)


class Drawn(Fetches):
    """Drawn histories of which two sides have parts, with cuts on none, on one and on both of them."""

    def world(self, seed):
        """Commits with trees of their own, some of them shared, and tags and trees that references can name."""
        numbers = chance(seed)
        store = Store()
        names = []
        for at in range(18):
            blob = store.put(Blob(f"text {next(numbers) % 12}"))
            entries = {"a": ("file", blob)}
            if next(numbers) % 2:
                entries["d"] = ("dir", store.put(Tree({"b": ("exec", store.put(Blob(f"{next(numbers) % 5}")))})))
            tree = store.put(Tree(entries))
            picked = sorted({names[next(numbers) % at] for _ in range(next(numbers) % 4) if at})
            names.append(store.put(Commit(tree, tuple(picked), author="ann", time=next(numbers) % 4, message=f"{at}")))
        others = [store.put(Tag(names[-1], label="v1")), store.put(Tag(names[7], label="v2")), store[names[4]].tree]
        others.append(store.put(Tag(others[1], label="v3")))
        others.append(store.put(Tag(others[2], label="v4")))
        return store, names, others, numbers

    def side(self, store, names, others, numbers, cuts):
        """A side with some references, and with a cut of some commits behind which some of its objects are absent."""
        table = {}
        for at in range(next(numbers) % 4 + 1):
            pool = others if next(numbers) % 3 == 0 else names
            table[("far/x/r{}" if next(numbers) % 4 == 0 else "r{}").format(at)] = pool[next(numbers) % len(pool)]
        cut = tuple([names[next(numbers) % len(names)] for _ in range(next(numbers) % 3 + 1)]) if cuts else ()
        return Side(copy_of(store, reach(store, table.values(), cut)), table, cut)

    def sides(self, seed):
        for server_cuts in (False, True):
            for client_cuts in (False, True):
                world = self.world(seed)
                yield self.side(*world, server_cuts), self.side(*world, client_cuts)

    def test_all_letters(self):
        for seed in range(60):
            for server, client in self.sides(seed):
                for single in (False, True):
                    letters, taker = self.check(server, client, single=single)
                    grown = self.grown(client, taker)
                    self.check_whole(grown)
                    self.assertEqual(len(self.check(server, grown)[0]), 1)

    def test_fetches_with_a_depth(self):
        for seed in range(60):
            for server, client in self.sides(seed + 100):
                for depth in (1, 2, 3, 5, 200):
                    letters, taker = self.check(server, client, depth=depth, single=seed % 2 == 0)
                    grown = self.grown(client, taker)
                    self.check_whole(grown)
                    # The next fetches begin with what this one left: deeper, equal and less deep ones.
                    for other_depth in (depth + 1, depth, max(1, depth - 1), None):
                        _, again = self.check(server, grown, depth=min(other_depth, 200) if other_depth else None)
                        self.check_whole(self.grown(grown, again))

    def test_transfer(self):
        """[12.6] Without cuts exactly what is missing is sent; with `single` there are so many letters."""
        for seed in range(60):
            server, client = next(self.sides(seed + 200))
            letters, taker = self.check(server, client)
            wants = [name for _, name in server.rows()]
            sent = {id_of(thing) for thing in taker.things() if isinstance(thing, Commit)}
            self.assertEqual(sent, commits_in(server.store, reach(server.store, wants)) - client.commits())
            letters, taker = self.check(server, client, single=True)
            if len(letters) > 1:
                mine, theirs = client.commits(), server.commits()
                walked = reach(client.store, starts_of(client.store, client.table))
                mine &= walked
                heads = History(client.store).independent(tuple(sorted(mine & theirs)))
                asked = [letter for letter in letters if letter[0] == "have"]
                self.assertEqual(len(asked), len(mine - theirs) + len(heads))

    def test_both_ways_again_and_again(self):
        for seed in range(20):
            one, other = next(self.sides(seed + 300))
            for _ in range(2):
                one = self.grown(one, self.check(other, one)[1], "o")
                other = self.grown(other, self.check(one, other)[1], "p")
            self.assertEqual(one.commits(), commits_in(one.store, one.has()))
            for ref, name in other.rows():
                self.assertEqual(one.table[f"far/o/{ref}"], name)
            self.assertEqual(len(self.check(other, one)[0]), 1)


class Depths(Fetches):
    def setUp(self):
        world = self.world = World()
        self.line = [world.commit("0")]
        for at in range(1, 7):
            self.line.append(world.commit(str(at), self.line[-1], time=at))
        self.server = Side(world.store, {"main": self.line[-1]})

    def sent(self, letters):
        return {id_of(thing) for thing in unpack(letters[-1][1])}

    def test_into_an_empty_client(self):
        for depth in range(1, 9):
            letters, client = self.check(self.server, Side(Store(), {}), depth=depth)
            self.assertEqual(letters[1], ("want", (self.line[-1],), (), depth))
            self.assertEqual(self.sent(letters), {self.world.tree, *self.line[-depth:]})
            cut = (self.line[-depth],) if depth < 7 else ()
            self.assertEqual((letters[-1][2], client.cuts()), (cut, cut))

    def test_into_a_whole_client(self):
        """All rows are wanted, also those that are there; what was whole stays whole."""
        whole = Side(copy_of(self.world.store, self.world.store.ids()), {"x": self.line[-1]})
        for depth in (1, 3, 6, 7, 200):
            letters, client = self.check(self.server, whole, depth=depth)
            self.assertEqual(letters[1], ("want", (self.line[-1],), (), depth))
            self.assertEqual(self.sent(letters), set())
            self.assertEqual(client.cuts(), ())
        part = Side(copy_of(self.world.store, [self.world.tree, *self.line[:4]]), {"x": self.line[3]})
        letters, client = self.check(self.server, part, depth=2)
        self.assertEqual((self.sent(letters), client.cuts()), ({*self.line[5:]}, (self.line[5],)))
        letters, client = self.check(self.server, part, depth=3)
        self.assertEqual((self.sent(letters), client.cuts()), ({*self.line[4:]}, ()))
        self.assertEqual(letters[-1][2], (self.line[4],))

    def test_into_a_shallow_client(self):
        _, first = self.check(self.server, Side(Store(), {}), depth=3)
        shallow = self.grown(Side(Store(), {}), first)
        self.assertEqual(shallow.cut, (self.line[4],))
        for depth, sent, cut in ((3, (), (self.line[4],)), (2, (), (self.line[4],)), (1, (), (self.line[4],)),
                                 (4, (3,), (self.line[3],)), (6, (3, 2, 1), (self.line[1],)), (7, (3, 2, 1, 0), ()),
                                 (200, (3, 2, 1, 0), ())):
            letters, client = self.check(self.server, shallow, depth=depth)
            self.assertEqual(self.sent(letters), {self.line[at] for at in sent})
            self.assertEqual(client.cuts(), cut)
            self.check_whole(self.grown(shallow, client))

    def test_without_a_depth_no_id_leaves_the_cut(self):
        store = self.world.store
        side = store.put(Commit(self.world.tree, (self.line[3],), author="bob", time=9))
        shallow = Side(copy_of(store, [self.world.tree, *self.line[4:]]), {"x": self.line[-1]}, (self.line[4],))
        server = Side(store, {"main": self.line[-1], "side": side})
        letters, client = self.check(server, shallow)
        self.assertEqual(self.sent(letters), {side, *self.line[:4]})
        self.assertEqual(client.cuts(), (self.line[4],))
        letters, client = self.check(server, self.grown(shallow, client), depth=1)
        self.assertEqual((self.sent(letters), client.cuts()), (set(), ()))

    def test_a_shallow_server(self):
        store = copy_of(self.world.store, [self.world.tree, *self.line[3:]])
        server = Side(store, {"main": self.line[-1]}, (self.line[3], ONE, self.line[3]))
        for depth, end in ((None, 3), (200, 3), (4, 3), (3, 4), (1, 6)):
            letters, client = self.check(server, Side(Store(), {}), depth=depth)
            self.assertEqual((letters[-1][2], client.cuts()), ((self.line[end],), (self.line[end],)))
        letters, client = self.check(server, Side(Store(), {}, (self.line[5], ONE)))
        self.assertEqual(self.sent(letters), {self.world.tree, *self.line[5:]})
        self.assertEqual((letters[-1][2], client.cuts()), ((), tuple(sorted([self.line[5], ONE]))))

    def test_no_rows(self):
        letters, client = self.check(Side(Store(), {}), self.server, depth=3)
        self.assertEqual((letters, client.things(), client.cuts()), ([("heads", ())], [], ()))

    def test_rows_that_lead_to_no_commit(self):
        store = Store()
        blob = store.put(Blob("a"))
        tag = store.put(Tag(blob, label="v1"))
        letters, client = self.check(Side(store, {"a": blob, "t": tag}), Side(Store(), {}), depth=1)
        self.assertEqual((self.sent(letters), client.cuts()), ({blob, tag}, ()))


if __name__ == "__main__":
    unittest.main()
