"""Fetches by letters [12], also those of a limited depth [14.2], [14.3]: a server, a client, and what passes."""

from forkhaul.cuts import shallow
from forkhaul.errors import BadCommand, BadLetter
from forkhaul.graph import numbers_in
from forkhaul.history import History, behind_tags
from forkhaul.letters import DONE, FAR, MOST_ASKED, READY, is_common, is_have, is_heads, is_pack, is_want
from forkhaul.objects import Commit
from forkhaul.packs import pack, unpacked
from forkhaul.states import sorted_rows
from forkhaul.words import ascending

# More than the generation of any commit of a history: it turns the greatest generation into the least text.
HIGHEST = 10 ** 6


class Server:
    """The side of a fetch that has what is wanted; `_turn` is the word of the letter that it waits for."""

    def __init__(self, store, table, *, cut=()):
        self._store = store
        self._table = dict(table)
        self._cut = cut
        self._turn = "greet"
        self._wants = ()
        self._client_cut = ()
        self._depth = None
        self._owned = {}
        self._asked = {}
        self._common = []

    def greet(self):
        """Return the first letter: the references that are shown."""
        if self._ended_turn() != "greet":
            raise BadLetter("a server greets once, and first of all")
        self._turn = "want"
        return ("heads", self._shown_rows())

    def take(self, letter):
        """Return the letter that answers this one."""
        turn = self._ended_turn()
        if turn == "want" and is_want(letter):
            return self._begin(letter)
        if turn == "have" and is_have(letter):
            return self._compare(letter[1])
        if turn == "have" and letter == DONE:
            return self._give()
        raise BadLetter("a letter out of turn or of another form")

    def _ended_turn(self):
        """Return whose turn it was: the machine is over unless a right letter gives the turn on."""
        turn = self._turn
        self._turn = "over"
        return turn

    def _shown_rows(self):
        return sorted_rows({ref: self._table[ref] for ref in self._table if not ref.startswith(FAR)})

    def _begin(self, letter):
        _, wants, cut, depth = letter
        shown = {name: True for _, name in self._shown_rows()}
        if not all([name in shown for name in wants]):
            raise BadLetter("an id is wanted that was not shown")
        self._wants = wants
        self._client_cut = cut
        self._depth = depth
        self._turn = "have"
        return READY

    def _compare(self, ids):
        """Return the letter that tells which of these commits are here, too."""
        if not all([name not in self._asked and self._can_be_commit(name) for name in ids]):
            raise BadLetter("an id is asked for again, or one that is no commit")
        if not self._asked:
            self._owned = owned_ids(self._store, self._table, self._cut)
        self._asked.update({name: True for name in ids})
        common = tuple([name for name in ids if name in self._owned])
        self._common.extend(common)
        self._turn = "have"
        return ("common", common)

    def _can_be_commit(self, name):
        return name not in self._store or isinstance(self._store[name], Commit)

    def _give(self):
        """Return the letter with all that the client lacks."""
        common = tuple(self._common)
        both = (*self._cut, *self._client_cut)
        if self._depth is None:
            sent = list(self._store.walk(self._wants, without=common, cut=both))
            ends = {name: True for name in self._cut}
            cut = ascending([name for name in sent if name in ends and self._can_be_commit(name)])
        else:
            _, cut = shallow(self._store, self._wants, self._depth, cut=self._cut)
            # No single walk has this: what is taken away has another cut.
            known = self._store.closure(common, {}, both)
            sent = [name for name in self._store.walk(self._wants, cut=cut) if name not in known]
        return ("pack", pack(self._store, sent), cut)


class Client:
    """The side of a fetch that wants something; `_turn` is the word of the letter that it waits for."""

    def __init__(self, store, table, *, cut=(), single=False, depth=None):
        self._store = store
        self._table = dict(table)
        self._cut = ascending({name: True for name in cut})
        self._is_single = single
        self._depth = depth
        self._turn = "heads"
        self._is_done = False
        self._shown = ()
        self._wants = ()
        self._owned = {}
        self._graph = History(store, cut=cut).graph
        self._queue = []
        self._asked = ()
        self._many = 1
        self._things = {}
        self._new_cut = self._cut

    def take(self, letter):
        """Return the letter that answers this one, or None behind the last one."""
        turn = self._turn
        # The machine is over unless a right letter gives the turn on.
        self._turn = "over"
        if turn == "heads" and is_heads(letter):
            return self._choose(letter[1])
        if turn == "ready" and letter == READY:
            self._queue = self._line_up()
            return self._ask()
        if turn == "common" and is_common(letter, self._asked):
            self._leave_out(letter[1])
            return self._ask()
        if turn == "pack" and is_pack(letter):
            return self._receive(letter)
        raise BadLetter("a letter out of turn or of another form")

    def things(self):
        """Return the list of the objects that were sent."""
        return list(self.sent().values())

    def sent(self):
        """Return the dict of the objects that were sent by their ids."""
        self._check_done()
        return dict(self._things)

    def heads(self):
        """Return the references that the server showed, with their ids."""
        self._check_done()
        return self._shown

    def cuts(self):
        """Return the cut behind the fetch, ascending."""
        self._check_done()
        return self._new_cut

    def _check_done(self):
        if not self._is_done:
            raise BadCommand("the fetch is not at its end")

    def _choose(self, rows):
        """Return the letter that wants what is shown and is not here."""
        self._shown = rows
        self._owned = owned_ids(self._store, self._table, self._cut)
        wants = ascending({name: True for _, name in rows})
        if self._depth is None:
            wants = tuple([name for name in wants if name not in self._owned])
        if not wants:
            self._is_done = True
            return None
        self._wants = wants
        self._turn = "ready"
        return ("want", wants, self._cut, self._depth)

    def _line_up(self):
        """Return the list of all commits that can be asked for, in the order in which they are.

        Each of them that is not common has joined the queue when its place in this order comes: so the queue is what
        is left of this list.
        """
        targets = [behind_tags(self._store, name) for name in self._table.values()]
        commits = [name for name in targets if name in self._store and isinstance(self._store[name], Commit)]
        graph = self._graph
        graph.learn(commits)
        numbers = numbers_in(graph.reached([graph.number(name) for name in commits]))
        by_place = {f"{HIGHEST - graph.height(number):07d}{graph.rank(number)}": number for number in numbers}
        return [graph.name_at(by_place[place]) for place in ascending(by_place)]

    def _ask(self):
        """Return the letter that asks for the next commits, or the one that says that none are left."""
        if not self._queue:
            self._turn = "pack"
            return DONE
        self._asked = tuple(self._queue[:self._many])
        self._queue = self._queue[self._many:]
        if self._many < MOST_ASKED and not self._is_single:
            self._many = self._many * 2
        self._turn = "common"
        return ("have", self._asked)

    def _leave_out(self, common):
        """Take what is common, and what it reaches, out of the queue."""
        graph = self._graph
        known = graph.reached([graph.number(name) for name in common])
        if known:
            self._queue = [name for name in self._queue if (known >> graph.number(name)) & 1 == 0]

    def _receive(self, letter):
        """Take over what was sent, if it is all that was wanted."""
        _, data, cut = letter
        things = unpacked(data)
        joined = self._store.copied()
        joined.put_known(things)
        new_cut = self._cut_behind(joined, things, cut)
        if joined.missing(self._wants, cut=new_cut):
            raise BadLetter("not all was sent that was wanted")
        self._things = things
        self._new_cut = new_cut
        self._is_done = True
        return None

    def _cut_behind(self, joined, things, cut):
        """Return the cut behind the fetch, given what was sent, and the cut of the letter, which may name any ids."""
        both = ascending({name: True for name in (*self._cut, *cut)})
        if self._depth is None:
            return both
        here = {**self._owned, **things}
        commits = {name: True for name in here if isinstance(joined[name], Commit)}
        return tuple([name for name in both if not _is_whole(joined, name, commits)])


def talk(client, server):
    """Pass all letters between two new machines, and return the list of them."""
    letters = [server.greet()]
    answer = client.take(letters[-1])
    while answer is not None:
        letters.append(answer)
        letters.append(server.take(answer))
        answer = client.take(letters[-1])
    return letters


def owned_ids(store, table, cut):
    """Return a dict of the ids that a side of a fetch has."""
    reached = store.closure(list(table.values()), {}, cut)
    return {name: True for name in reached if name in store}


def _is_whole(store, name, commits):
    """Return whether it is one of these commits, as all of its parents are."""
    return name in commits and all([parent in commits for parent in store[name].parents])
