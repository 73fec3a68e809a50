"""The search for the commit that brought a fault [10.1], [10.2]."""

from forkhaul.errors import BadMark
from forkhaul.graph import count_of, numbers_in
from forkhaul.words import ascending


class Search:
    """A search by marks: a commit is bad exactly if it reaches the one that is looked for."""

    def __init__(self, history):
        self._history = history
        self._marks = []

    def bad(self, name):
        """Mark a commit that has the fault."""
        self._mark("bad", name)

    def good(self, name):
        """Mark a commit that does not have the fault."""
        self._mark("good", name)

    def skip(self, name):
        """Note that a commit cannot be tested."""
        self._mark("skip", name)

    def undo(self):
        """Take back the last mark."""
        if not self._marks:
            raise BadMark("there is no mark")
        self._marks.pop()

    def candidates(self):
        """Return the commits that can have brought the fault, ascending."""
        return ascending(self._history.graph.names_in(self._left(self._marks)))

    def next(self):
        """Return the commit that is to be tested next, or None."""
        graph = self._history.graph
        left = self._left(self._marks)
        many = count_of(left)
        skipped = _marked(self._marks, "skip")
        rated = {}
        for number in numbers_in(left):
            below = count_of(left & graph.below(number))
            if below < many and number not in skipped:
                # A text, since the numbers and the id are compared one behind the other.
                rated[f"{max(int(below), many - below):04d}{graph.rank(number)}"] = graph.name_at(number)
        return rated[ascending(rated)[0]] if rated else None

    def found(self):
        """Return the commit that was looked for, or all that cannot be told apart, or None."""
        names = self.candidates()
        if len(names) == 1:
            return names[0]
        return names if names and self.next() is None else None

    def _mark(self, word, name):
        marks = self._marks + [(word, self._history.numbers_of((name,))[0])]
        if _marked(marks, "bad") and not self._left(marks):
            raise BadMark("this mark leaves no candidate")
        self._marks = marks

    def _left(self, marks):
        """Return the set of the candidates that these marks leave."""
        graph = self._history.graph
        bads = _marked(marks, "bad")
        left = graph.below(bads[0]) if bads else 0
        for number in bads:
            left = left & graph.below(number)
        return left & ~graph.reached(_marked(marks, "good"))


def _marked(marks, word):
    """Return the list of the numbers of the commits with these marks."""
    return [number for kind, number in marks if kind == word]
