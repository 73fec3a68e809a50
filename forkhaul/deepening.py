"""Deepening [14.4]: a fetch of a limited depth into a repository that may have less."""

from forkhaul.between import fetch
from forkhaul.cuts import is_depth
from forkhaul.errors import BadCommand, BadName
from forkhaul.words import is_short_ref, is_time


def deepen(repo, other, word, *, now, depth, letters=None):
    """Fetch the history of another repository down to a depth, and return the ids of the commits that were sent."""
    if not is_short_ref(word) or not is_time(now):
        raise BadName("no reference of one segment, or no time")
    if not is_depth(depth):
        raise BadCommand("a depth is a whole number from 1 to 200")
    return fetch(repo, other, word, now=now, depth=depth, letters=letters)
