"""What a repository keeps beside its objects, as the bytes of one file of lines.

It is a tuple of four: how often it was saved, the state of the references [6.1], the cut, and the holds. In an entry of
a log `-` stands for None, and a tab for a line feed: messages have no tabs.
"""

from forkhaul.states import NEW_STATE, sorted_rows


class LogTexts:
    """The lines of logs, which are made once for each entry, since logs are saved anew whenever one of them grows."""

    def __init__(self):
        self._known = {}

    def bytes_of(self, saved):
        """Return the bytes of the file."""
        many, state, cut, holds = saved
        rows, (word, place), logs = state
        texts = [f"saves {many}\nhead {word} {place}\n"]
        texts.extend([f"ref {ref} {name}\n" for ref, name in rows])
        texts.extend([f"cut {name}\n" for name in cut])
        texts.extend([f"hold {hold} " + " ".join(holds[hold]) + "\n" for hold in holds])
        texts.extend([self._text_of(name, entries) for name, entries in logs])
        return "".join(texts).encode("ascii")

    def _text_of(self, name, entries):
        """Return the lines of a log; most often it is a known one with an entry more."""
        known, text = self._known.get(name, ((), ""))
        if entries[:len(known)] != known:
            known, text = (), ""
        text = text + "".join([_line_of(name, entry) for entry in entries[len(known):]])
        self._known[name] = (entries, text)
        return text


def nothing_saved():
    """Return what a new repository keeps."""
    return 0, NEW_STATE, (), {}


def read_saved(data):
    """Return what was saved in the bytes of the file."""
    rows = {"saves": [], "head": [], "ref": [], "cut": [], "hold": [], "log": []}
    for line in data.decode("ascii").split("\n")[:-1]:
        word, _, rest = line.partition(" ")
        rows[word].append(rest)
    word, _, place = rows["head"][0].partition(" ")
    ids = tuple([_halves(row) for row in rows["ref"]])
    holds = {}
    for row in rows["hold"]:
        hold, names = _halves(row)
        holds[hold] = tuple(names.split(" "))
    state = (ids, (word, place), sorted_rows(_read_logs(rows["log"])))
    return int(rows["saves"][0]), state, tuple(rows["cut"]), holds


def _halves(text):
    """Return what stands in front of the first blank of a text, and what stands behind it."""
    first, _, rest = text.partition(" ")
    return first, rest


def _read_logs(rows):
    """Return a dict from names to tuples of entries."""
    logs = {}
    for row in rows:
        name, old, new, who, time, message = row.split(" ", 5)
        if name not in logs:
            logs[name] = []
        logs[name].append((_read_id(old), _read_id(new), who, int(time), message.replace("\t", "\n")))
    return {name: tuple(logs[name]) for name in logs}


def _read_id(word):
    return None if word == "-" else word


def _line_of(name, entry):
    old, new, who, time, message = entry
    text = message.replace("\n", "\t")
    return f"log {name} {_word_of(old)} {_word_of(new)} {who} {time} {text}\n"


def _word_of(name):
    return "-" if name is None else name
