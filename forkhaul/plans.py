"""The best plans of tests [10.3], and bounds that show that no plan is better [10.4].

Sets of the names are the bits of integers: the bit of the first name in ascending order is the lowest one.
"""

from forkhaul.errors import BadMark
from forkhaul.graph import numbers_in
from forkhaul.words import ascending, is_count

MOST_NAMES = 12


def best(history, names):
    """Return the least depth of all plans for these commits, and a plan that has it."""
    rows = _rows_of(history, names)
    tests = {}
    depth = _best_depth(rows, _all_of(rows), tests)
    return depth, _plan_of(ascending(names), rows, _all_of(rows), tests)


def depth_of(history, names, plan):
    """Return the depth of a plan for these commits."""
    rows = _rows_of(history, names)
    return _depth_of_plan(ascending(names), rows, _all_of(rows), plan)


def bounds(history, names):
    """Return bounds that hold, with the least depth for all of these commits together."""
    rows = _rows_of(history, names)
    tests = {}
    _best_depth(rows, _all_of(rows), tests)
    table = {_key_of(ascending(names), bits): tests[bits][0] for bits in tests if tests[bits][0] > 0}
    # Ids are of one length: their tuples stand in the order of the texts that they make.
    by_text = {"".join(key): key for key in table}
    return {by_text[text]: table[by_text[text]] for text in ascending(by_text)}


def shows_best(history, names, depth, bounds):
    """Return whether any object is bounds that hold, and that leave no plan of less than this depth."""
    rows = _rows_of(history, names)
    if not isinstance(depth, int) or isinstance(depth, bool):
        return False
    table = _read_bounds(ascending(names), bounds)
    if table is None or not all([_holds(rows, bits, table) for bits in table]):
        return False
    return table.get(_all_of(rows), 0) >= depth


def _rows_of(history, names):
    """Return, for each of the names in ascending order, the set of those that it reaches."""
    if not isinstance(names, tuple) or not 1 <= len(names) <= MOST_NAMES or _has_twins(names):
        raise BadMark("the names are 1 to 12 different commits")
    history.numbers_of(names)
    ordered = ascending(names)
    return [sum([1 << at for at in range(len(ordered)) if history.reaches(name, ordered[at])]) for name in ordered]


def _has_twins(things):
    """Return whether two of these are equal; they may be any objects, also such as cannot be keys."""
    return any([things[at] == things[other] for at in range(len(things)) for other in range(at)])


def _all_of(rows):
    return (1 << len(rows)) - 1


def _key_of(names, bits):
    """Return the tuple of the names in a set."""
    return tuple([names[number] for number in numbers_in(bits)])


def _splits(rows, bits):
    """Return the tests that tell the commits of a set apart: tuples of the number and the two sets that are left."""
    sides = [(number, rows[number] & bits) for number in numbers_in(bits)]
    return [(number, bad, bits ^ bad) for number, bad in sides if bad != bits]


def _best_depth(rows, bits, tests):
    """Return the least depth for a set, and note it in `tests` with the number of a test that leads to it."""
    if bits not in tests:
        best_depth, best_test = 0, None
        for number, bad, good in _splits(rows, bits):
            depth = 1 + max(int(_best_depth(rows, bad, tests)), int(_best_depth(rows, good, tests)))
            if best_test is None or depth < best_depth:
                best_depth, best_test = depth, number
        tests[bits] = (best_depth, best_test)
    return tests[bits][0]


def _plan_of(names, rows, bits, tests):
    """Return the plan for a set by the tests that were found."""
    number = tests[bits][1]
    if number is None:
        return _key_of(names, bits)[0]
    bad = rows[number] & bits
    return (names[number], _plan_of(names, rows, bad, tests), _plan_of(names, rows, bits ^ bad, tests))


def _depth_of_plan(names, rows, bits, plan):
    """Return the depth of what should be a plan for a set."""
    splits = _splits(rows, bits)
    if not splits:
        if plan != _key_of(names, bits)[0]:
            raise BadMark("the plan for one commit is its id")
        return 0
    if not isinstance(plan, tuple) or len(plan) != 3:
        raise BadMark("a plan is a tuple of a test and two plans")
    test, bad_plan, good_plan = plan
    for number, bad, good in splits:
        if test == names[number]:
            return 1 + max(int(_depth_of_plan(names, rows, bad, bad_plan)),
                           int(_depth_of_plan(names, rows, good, good_plan)))
    raise BadMark("the test is none for this set")


def _read_bounds(names, thing):
    """Return a dict from sets to numbers for what has the form of bounds, or None."""
    if not isinstance(thing, dict):
        return None
    places = {name: at for at, name in enumerate(names)}
    table = {}
    for key in thing:
        if not _is_key(key, places) or not is_count(thing[key]) or thing[key] == 0:
            return None
        table[sum([1 << places[name] for name in key])] = thing[key]
    return table


def _is_key(thing, places):
    """Return whether a key of a dict is an ascending tuple of two or more of the names."""
    if not isinstance(thing, tuple) or len(thing) < 2:
        return False
    if not all([isinstance(name, str) and name in places for name in thing]):
        return False
    return all([name < after for name, after in zip(thing, thing[1:])])


def _holds(rows, bits, table):
    """Return whether the number of a set follows from those of the sets that its tests leave."""
    rest = table[bits] - 1
    return all([table.get(bad, 0) >= rest or table.get(good, 0) >= rest for _, bad, good in _splits(rows, bits)])
