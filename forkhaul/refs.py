"""References with HEAD and logs [6.1], [6.2]."""

from forkhaul.edits import Edit
from forkhaul.errors import BadName, BadRef, Locked, NoRef
from forkhaul.states import NEW_STATE, is_log_name, is_state, led_to, sorted_rows, touch
from forkhaul.words import ascending, is_count, is_message, is_short_ref, is_time


class Refs:
    """Names for ids; they are changed by edits alone."""

    def __init__(self, state=None):
        if state is not None and not is_state(state):
            raise BadName("no state of references")
        self._locks = {}
        self._take_over(NEW_STATE if state is None else state)

    def __getitem__(self, ref):
        if ref not in self:
            raise NoRef(ref)
        return self._table[ref]

    def __contains__(self, ref):
        return isinstance(ref, str) and ref in self._table

    def __len__(self):
        return len(self._table)

    def __iter__(self):
        raise TypeError("references are not iterated over: take their names()")

    def names(self):
        """Return the names of all references, ascending."""
        return ascending(self._table)

    def head(self):
        """Return where HEAD stands: ("ref", REF) or ("id", ID)."""
        return self._head

    def at_head(self):
        """Return the id that HEAD leads to, or None."""
        return led_to(self._table, self._head)

    def state(self):
        """Return all of it as a tuple, from which equal references can be made."""
        return (sorted_rows(self._table), self._head, sorted_rows(self._logs))

    def log(self, name):
        """Return the log entries of a reference or of HEAD, oldest first."""
        if not is_log_name(name):
            raise BadRef("no reference and not HEAD")
        return list(self._logs.get(name, ()))

    def back(self, name, n):
        """Return the id that a name had, n changes ago, or None."""
        entries = self.log(name)
        if not is_count(n):
            raise BadName("no whole number of at least 0")
        if n < len(entries):
            return entries[len(entries) - 1 - n][1]
        if n == len(entries) and entries:
            return entries[0][0]
        return None

    def expire(self, now, *, age):
        """Remove the log entries that are older than `age` and return how many there were."""
        if not is_count(now) or not is_count(age):
            raise BadName("no whole number of at least 0")
        before = self._count_entries()
        kept = {name: _young(self._logs[name], now, age) for name in self._logs}
        self._logs = {name: kept[name] for name in kept if kept[name]}
        return before - self._count_entries()

    def edit(self, who, time, message):
        """Open an edit."""
        if not is_short_ref(who) or not is_time(time) or not is_message(message):
            raise BadName("no name, no time or no message for an edit")
        return Edit(self, (who, time, message))

    def lock(self, ref, edit):
        """Lock a reference, or HEAD, for an open edit; locks of closed edits are gone."""
        held = {name: self._locks[name] for name in self._locks if not self._locks[name].closed}
        barring = [name for name in held if held[name] != edit and touch(name, ref)]
        if barring:
            raise Locked(ascending(barring)[0])
        held[ref] = edit
        self._locks = held

    def become(self, state):
        """Take over the state that an edit leaves; open edits and their locks stay."""
        self._take_over(state)

    def copied(self):
        """Return equal references without open edits."""
        other = Refs()
        other._take_over(self.state())
        return other

    def _take_over(self, state):
        rows, head, logs = state
        self._table = {ref: name for ref, name in rows}
        self._head = head
        self._logs = {name: entries for name, entries in logs}

    def _count_entries(self):
        return sum([len(self._logs[name]) for name in self._logs])


def _young(entries, now, age):
    return tuple([entry for entry in entries if now - entry[3] <= age])
