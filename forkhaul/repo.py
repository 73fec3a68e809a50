"""Repositories [15.3], their commands [15.4], and what is safe of them [15.5]."""

from forkhaul.codes import id_of
from forkhaul.errors import BadName, Conflict, NoObject
from forkhaul.history import History, commit_of
from forkhaul.merging import merge_of
from forkhaul.objects import Commit
from forkhaul.refs import Refs
from forkhaul.revisions import View
from forkhaul.store import parts_within
from forkhaul.trees import things_of, trees_for
from forkhaul.vault import Vault
from forkhaul.words import are_ids, ascending, is_author, is_message, is_short_ref, is_time


class Repo:
    """Objects, references with logs, a cut and holds on a disk.

    Its `vault` is for the files of the package that work for repositories.
    """

    def __init__(self, disk):
        self.vault = Vault(disk)
        self._refs = SavedRefs(self.vault)

    def stored(self):
        """Return a copy of the objects."""
        return self.vault.shelf.copied()

    def references(self):
        """Return a copy of the references."""
        return self._refs.copied()

    def cuts(self):
        """Return the commits of the cut, ascending."""
        return self.vault.cut

    def holds(self):
        """Return a dict from the words of the holds to the ids that they hold."""
        return dict(self.vault.holding)

    def view(self):
        """Return a copy of it all in which expressions can be read."""
        return View(self.stored(), self.references(), cut=self.cuts())

    def tick(self, name):
        """Return the time at which an object was put last."""
        if name not in self.vault.shelf:
            raise NoObject(name)
        return self.vault.ticks[name]

    def put(self, thing, *, now):
        """Put an object whose parts are there, and return its id."""
        name = id_of(thing)
        _check_time(now)
        ends = {end: True for end in self.vault.cut}
        for part in parts_within(name, thing, ends):
            if part not in self.vault.shelf:
                raise NoObject(part)
        self.vault.keep(name, thing, now)
        return name

    def commit(self, texts, *, author, now, message="", parents=None):
        """Put a commit of these files, let HEAD lead to it, and return its id."""
        root, things = things_of(texts)
        if parents is None:
            head = self._refs.at_head()
            parents = () if head is None else (head,)
        thing = Commit(root, parents, author=author, time=now, message=message)
        for parent in parents:
            commit_of(self.vault.shelf, parent)
        name = id_of(thing)
        self._advance(name, {**things, name: thing}, author, now, message)
        return name

    def merge(self, name, *, author, now, message=""):
        """Merge a commit into the one to which HEAD leads, and return what HEAD leads to then."""
        commit_of(self.vault.shelf, name)
        _check_time(now)
        if not is_author(author) or not is_message(message):
            raise BadName("no author or no message for a merge")
        things = {}
        head = self._refs.at_head()
        history = History(self.vault.shelf, cut=self.vault.cut)
        if head is not None and history.reaches(head, name):
            name = head
        elif head is not None and not history.reaches(name, head):
            root, things = _merged_things(history, head, name)
            thing = Commit(root, (head, name), author=author, time=now, message=message)
            name = id_of(thing)
            things[name] = thing
        self._advance(name, things, author, now, message)
        return name

    def edit(self, who, now, message):
        """Open an edit of the references."""
        return self._refs.edit(who, now, message)

    def hold(self, word, names, *, now):
        """Let a word hold these ids, or none any more."""
        if not is_short_ref(word) or not are_ids(names):
            raise BadName("a hold has a reference of one segment, and a tuple of ids")
        _check_time(now)
        self.vault.check_present(names)
        held = {**self.vault.holding, word: names}
        holding = {other: held[other] for other in ascending(held) if held[other]}
        self.vault.save(self.vault.refs_state, self.vault.cut, holding)

    def carry_out(self, edit, things, now, cut):
        """Put objects, parts first, and carry out an edit together with a new cut."""
        state = edit.behind()
        self.vault.bring(things, now)
        self._refs.assume(state, cut)

    def lose_entries(self, now, age):
        """Remove the log entries that are older than `age` and return how many there were."""
        refs = self.references()
        many = refs.expire(now, age=age)
        self._refs.assume(refs.state(), self.vault.cut)
        return many

    def _advance(self, name, things, who, now, message):
        """Put objects, and let the reference that HEAD names, or HEAD itself, lead to one of them."""
        with self.edit(who, now, message.split("\n")[0]) as edit:
            word, place = self._refs.head()
            if word == "ref":
                edit.point(place, name)
            else:
                edit.stand("id", name)
            self.carry_out(edit, things, now, self.vault.cut)


class SavedRefs(Refs):
    """The references of a repository that is open: what changes them is saved first."""

    def __init__(self, vault):
        super().__init__()
        self._vault = vault
        self._take_over(vault.refs_state)

    def become(self, state):
        """Save and take over the state that an edit leaves, if it leads to what is there."""
        rows, (word, place), _ = state
        names = [name for _, name in rows]
        self._vault.check_present([*names, place] if word == "id" else names)
        self.assume(state, self._vault.cut)

    def assume(self, state, cut):
        """Save and take over a state and a cut."""
        self._vault.save(state, cut, self._vault.holding)
        self._take_over(state)


def _check_time(now):
    if not is_time(now):
        raise BadName("no time")


def _merged_things(history, one, other):
    """Return the id of the tree of two commits' merged files, and a dict of the trees that are to be put."""
    files, conflicts = merge_of(history, one, other)
    if conflicts:
        raise Conflict(conflicts)
    trees = trees_for(files, False)
    return trees[-1][0], dict(trees)
