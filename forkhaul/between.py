"""Fetches [17.1] and pushes [17.2] between two repositories."""

from forkhaul.cuts import is_depth
from forkhaul.errors import BadCommand, BadName, Cut, Locked
from forkhaul.fetching import Client, Server, talk
from forkhaul.letters import FAR
from forkhaul.objects import Commit
from forkhaul.pushing import check_commands, check_terms, judgement, parcel
from forkhaul.store import parts_first
from forkhaul.words import ascending, is_limit, is_short_ref, is_time


def fetch(repo, other, word, *, now, single=False, depth=None, letters=None):
    """Fetch what another repository shows, and return the ids of the commits that were sent."""
    _check_names(word, now, letters)
    if depth is not None and not is_depth(depth):
        raise BadCommand("a depth is a whole number from 1 to 200")
    client = Client(repo.vault.shelf, _table_of(repo), cut=repo.cuts(), single=single, depth=depth)
    server = Server(other.vault.shelf, _table_of(other), cut=other.cuts())
    # Until the last letter is there nothing has changed: so the letters can be counted afterwards.
    many = len(talk(client, server))
    if letters is not None and letters < many:
        raise Cut("not all letters were passed on")
    sent = client.sent()
    with repo.edit(word, now, "fetch") as edit:
        _note_heads(edit, f"{FAR}{word}/", client.heads(), repo.references().names())
        repo.carry_out(edit, parts_first(sent), now, client.cuts())
    return ascending([name for name in sent if isinstance(sent[name], Commit)])


def push(repo, other, commands, word, *, now, rules=(), force=(), atomic=False, letters=None):
    """Push to another repository what commands ask for, and return its answers."""
    check_commands(commands)
    _check_names(word, now, letters)
    check_terms((), rules, force, atomic)
    refs = other.references()
    shown = tuple([refs[ref] for ref in refs.names()])
    names = parcel(repo.vault.shelf, commands, shown, cut=repo.cuts())
    if letters == 0:
        raise Cut("the commands were not passed on")
    things = {name: repo.vault.shelf[name] for name in names}
    joined = other.stored()
    joined.put_known(things)
    answers, changes = judgement(joined, refs, commands, (other.cuts(), rules, force, atomic))
    try:
        _carry_out_all(other, joined, things, changes, (word, now))
    except Locked:
        # Behind all other errors: where the answers get lost, this one gets lost with them.
        if letters != 1:
            raise
    if letters == 1:
        raise Cut("the answers were not passed on")
    return answers


def _check_names(word, now, letters):
    if not is_short_ref(word) or not is_time(now) or not is_limit(letters):
        raise BadName("no reference of one segment, no time or no number of letters")


def _table_of(repo):
    refs = repo.references()
    return {ref: refs[ref] for ref in refs.names()}


def _note_heads(edit, front, heads, refs):
    """Note in an edit that the references with this front shall be the heads that were shown."""
    shown = {front + ref: name for ref, name in heads}
    for ref in shown:
        edit.point(ref, shown[ref])
    for ref in refs:
        if ref.startswith(front) and ref not in shown:
            edit.delete(ref)


def _carry_out_all(other, joined, things, changes, note):
    """Carry out accepted commands in one edit of the receiver, with those objects that they need."""
    if not changes:
        return
    word, now = note
    news = [new for _, _, new in changes if new is not None]
    needed = joined.closure(news, {}, other.cuts())
    with other.edit(word, now, "push") as edit:
        for ref, old, new in changes:
            if new is None:
                edit.delete(ref, old=old)
            else:
                edit.point(ref, new, old=old)
        brought = {name: things[name] for name in things if name in needed}
        other.carry_out(edit, parts_first(brought), now, other.cuts())
