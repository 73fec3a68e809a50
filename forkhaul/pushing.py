"""What a push may change [13]: the answers of a receiver, and what a sender sends."""

from forkhaul.errors import BadCommand, BadName
from forkhaul.objects import Commit
from forkhaul.states import touch
from forkhaul.words import are_ids, is_id_or_none, is_ref

RULES = ("no-create", "no-delete", "no-force")
MOST_COMMANDS = 40


def judge(store, refs, commands, *, cut=(), rules=(), force=(), atomic=False):
    """Return the answers to the commands of a push, in their order."""
    check_commands(commands)
    check_terms(cut, rules, force, atomic)
    return judgement(store, refs, commands, (cut, rules, force, atomic))[0]


def accepted(store, refs, commands, *, cut=(), rules=(), force=(), atomic=False):
    """Return the commands of a push that change something."""
    check_commands(commands)
    check_terms(cut, rules, force, atomic)
    return judgement(store, refs, commands, (cut, rules, force, atomic))[1]


def parcel(store, commands, shown, *, cut=()):
    """Return the ids that a sender sends to a receiver that shows some ids."""
    check_commands(commands)
    if not are_ids(shown) or not are_ids(cut):
        raise BadName("what is shown, and a cut, are tuples of ids")
    wanted = tuple([new for _, _, new in commands if new is not None])
    known = tuple([name for name in shown if name in store])
    return tuple(store.walk(wanted, without=known, cut=cut))


def check_commands(commands):
    """Raise BadCommand for what are no commands."""
    if not isinstance(commands, (list, tuple)) or len(commands) > MOST_COMMANDS:
        raise BadCommand("commands are a list or a tuple of at most 40")
    if not all([_is_command(command) for command in commands]):
        raise BadCommand("a command is a tuple of a reference, an old id and a new one")
    if len(set([ref for ref, _, _ in commands])) < len(commands):
        raise BadCommand("two commands have one reference")


def check_terms(cut, rules, force, atomic):
    """Raise BadName for what cannot stand beside commands."""
    if not are_ids(cut):
        raise BadName("a cut is a tuple of ids")
    if not isinstance(rules, tuple) or not all([rule in RULES for rule in rules]) or len(set(rules)) < len(rules):
        raise BadName("rules are a tuple of different words")
    if not isinstance(force, tuple) or not all([is_ref(ref) for ref in force]):
        raise BadName("what is forced is a tuple of references")
    if not isinstance(atomic, bool):
        raise BadName("a push is atomic or not")


def judgement(store, refs, commands, terms):
    """Return the answers to some commands, and those of the commands that change something."""
    receiver = Receiver(store, refs, terms)
    answers = []
    changes = []
    for command in commands:
        answer, is_change = receiver.answer(command)
        answers.append(answer)
        if is_change:
            changes.append(command)
    atomic = terms[3]
    if atomic and not all([answer == "ok" for answer in answers]):
        return tuple(["held" if answer == "ok" else answer for answer in answers]), ()
    return tuple(answers), tuple(changes)


class Receiver:
    """The side of a push that answers; its table is what the accepted commands leave of the references."""

    def __init__(self, store, refs, terms):
        cut, rules, force, _ = terms
        self._store = store
        self._table = {ref: refs[ref] for ref in refs.names()}
        self._cut = cut
        self._ends = {name: True for name in cut}
        self._rules = rules
        self._force = force
        self._whole = {}

    def answer(self, command):
        """Return the answer to a command, and whether it was carried out."""
        ref, old, new = command
        present = self._table.get(ref)
        if present == new:
            return "ok", False
        if present != old:
            return "stale", False
        refusal = self._refusal(ref, old, new)
        if refusal != "":
            return refusal, False
        if new is None:
            del self._table[ref]
        else:
            self._table[ref] = new
        return "ok", True

    def _refusal(self, ref, old, new):
        """Return why a command that is not stale is not accepted, or nothing."""
        if old is None and "no-create" in self._rules:
            return "ruled"
        if new is None:
            return "ruled" if "no-delete" in self._rules else ""
        if not self._is_whole(new):
            return "missing"
        if old is not None and not self._reaches(new, old):
            if ref not in self._force:
                return "not-forward"
            if "no-force" in self._rules:
                return "ruled"
        if any([name != ref and touch(name, ref) for name in self._table]):
            return "clash"
        return ""

    def _is_whole(self, name):
        """Return whether nothing is absent that an id reaches; what was found to be whole is not walked again."""
        found = self._store.closure((name,), self._whole, self._cut)
        if not all([part in self._store for part in found]):
            return False
        self._whole.update(found)
        return True

    def _reaches(self, name, other):
        """Return whether both are commits of which the first one, which is whole, reaches the second one."""
        found = {}
        todo = [name]
        while todo and other not in found:
            name = todo.pop()
            if name not in found and isinstance(self._store[name], Commit):
                found[name] = True
                if name not in self._ends:
                    todo.extend(self._store[name].parents)
        return other in found


def _is_command(thing):
    if not isinstance(thing, tuple) or len(thing) != 3:
        return False
    ref, old, new = thing
    return is_ref(ref) and is_id_or_none(old) and is_id_or_none(new) and not (old is None and new is None)
