"""States of references [6.1] as tuples: pairs of references and ids, HEAD, and logs."""

from forkhaul.words import ascending, have_prefixes, is_id, is_id_or_none, is_message, is_ref, is_short_ref, is_time

NEW_STATE = ((), ("ref", "main"), ())


def is_state(thing):
    """Return whether it is the state of some references."""
    if not isinstance(thing, tuple) or len(thing) != 3:
        return False
    rows, head, logs = thing
    if not are_rows(rows) or not is_head(head) or not are_rows(logs):
        return False
    ids = {ref: name for ref, name in rows}
    return (all([is_ref(ref) and is_id(ids[ref]) for ref in ids]) and not have_prefixes(ids)
            and all([is_log_name(name) and _are_entries(entries) for name, entries in logs]))


def is_head(thing):
    """Return whether it is where HEAD can stand."""
    if not isinstance(thing, tuple) or len(thing) != 2:
        return False
    word, name = thing
    return (word == "ref" and is_ref(name)) or (word == "id" and is_id(name))


def is_log_name(thing):
    """Return whether it is a name that can have a log: a reference or HEAD."""
    return is_ref(thing) or thing == "HEAD"


def touch(one, other):
    """Return whether two references are one, or one is a prefix of the other, by segments."""
    return one == other or one.startswith(other + "/") or other.startswith(one + "/")


def led_to(ids, head):
    """Return the id that HEAD leads to, or None."""
    word, name = head
    return name if word == "id" else ids.get(name)


def moved(state, moves, head, note):
    """Return the state behind these moves, with HEAD at `head`; the note is who, the time and the message."""
    rows, old_head, logs = state
    old_ids = {ref: name for ref, name in rows}
    ids = after_moves(old_ids, moves)
    entries = {name: log for name, log in logs}
    for ref, old, new in moves:
        entries[ref] = entries.get(ref, ()) + ((old, new) + note,)
    before = led_to(old_ids, old_head)
    behind = led_to(ids, head)
    if head != old_head or before != behind:
        entries["HEAD"] = entries.get("HEAD", ()) + ((before, behind) + note,)
    return (sorted_rows(ids), head, sorted_rows(entries))


def after_moves(ids, moves):
    """Return the dict of references and ids behind these moves."""
    news = {ref: new for ref, _, new in moves}
    kept = {ref: ids[ref] for ref in ids if ref not in news}
    made = {ref: news[ref] for ref in news if news[ref] is not None}
    return {**kept, **made}


def sorted_rows(table):
    """Return the pairs of a dict with texts as its keys, ascending."""
    return tuple([(name, table[name]) for name in ascending(table)])


def are_rows(thing):
    """Return whether it is a tuple of pairs with texts in front, strictly ascending."""
    if not isinstance(thing, tuple):
        return False
    if not all([isinstance(row, tuple) and len(row) == 2 and isinstance(row[0], str) for row in thing]):
        return False
    return all([row[0] < after[0] for row, after in zip(thing, thing[1:])])


def _are_entries(thing):
    return isinstance(thing, tuple) and len(thing) > 0 and all([_is_entry(entry) for entry in thing])


def _is_entry(thing):
    if not isinstance(thing, tuple) or len(thing) != 5:
        return False
    old, new, who, time, message = thing
    return (is_id_or_none(old) and is_id_or_none(new) and is_short_ref(who)
            and is_time(time) and is_message(message))
