"""Edits [6.3], [6.4]: changes of references that are noted first and happen at once."""

from forkhaul.errors import BadCommand, BadName, BadRef, Stale
from forkhaul.states import after_moves, is_head, moved
from forkhaul.words import ascending, have_prefixes, is_id, is_ref


class Edit:
    """An edit of references; what it asks of them is their `state`, `lock` and `become`."""

    def __init__(self, refs, note):
        self._refs = refs
        self._note = note
        self._calls = {}
        self._new_head = None
        self.closed = False

    def point(self, ref, new, *, old=""):
        """Note that the reference shall have the id `new`."""
        self._check_open()
        if not is_ref(ref):
            raise BadRef("no reference")
        if not is_id(new):
            raise BadName("no id")
        self._call(ref, new, old)

    def delete(self, ref, *, old=""):
        """Note that the reference shall not exist."""
        self._check_open()
        if not is_ref(ref):
            raise BadRef("no reference")
        self._call(ref, None, old)

    def stand(self, word, name):
        """Note where HEAD shall stand."""
        self._check_open()
        if word == "ref" and not is_ref(name):
            raise BadRef("no reference")
        if not is_head((word, name)):
            raise BadName("HEAD stands at a reference or at an id")
        self._refs.lock("HEAD", self)
        self._new_head = (word, name)

    def finish(self):
        """Carry out all that was noted, and close the edit."""
        self._refs.become(self.behind())
        self.closed = True

    def drop(self):
        """Close the edit without any change."""
        self._check_open()
        self.closed = True

    def moves(self):
        """Return the tuples (ref, old, new) of the references that `finish` would change."""
        self._check_open()
        ids = self._ids()
        for ref in self._calls:
            old = self._calls[ref][1]
            if old != "" and old != ids.get(ref):
                raise Stale(ref)
        rows = [(ref, ids.get(ref), self._calls[ref][0]) for ref in ascending(self._calls)]
        moves = tuple([(ref, old, new) for ref, old, new in rows if old != new])
        if have_prefixes(after_moves(ids, moves)):
            raise BadRef("one reference would lie below another one")
        return moves

    def behind(self):
        """Return the state that `finish` would leave."""
        moves = self.moves()
        state = self._refs.state()
        head = state[1] if self._new_head is None else self._new_head
        return moved(state, moves, head, self._note)

    def __enter__(self):
        self._check_open()
        return self

    def __exit__(self, kind, value, trace):
        self.closed = True

    def _check_open(self):
        if self.closed:
            raise BadCommand("the edit is closed")

    def _call(self, ref, new, old):
        """Note what a reference shall have; a later call stands behind all earlier ones."""
        if old is not None and old != "" and not is_id(old):
            raise BadName("no id that the reference could have")
        self._refs.lock(ref, self)
        self._calls.pop(ref, None)
        self._calls[ref] = (new, old)

    def _ids(self):
        return {ref: name for ref, name in self._refs.state()[0]}
