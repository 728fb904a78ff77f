"""Histories for the tests, and what the document's definitions say of them, written out anew and slowly."""

from functools import lru_cache
from itertools import combinations, permutations, product
from random import Random

from movingpages.rows import is_history
from tests.samples import letters_rows

DOCUMENT = (("a", "b", "c", "d"), ("b", "a", "c", "d"), ("a", "b", "d", "c"))

EDGES = {
    "one empty version": ((),),
    "only empty versions": ((), (), ()),
    "the last version is empty": (("a", "b"), ("b",), ()),
    "a version repeated": (("b", "a", "c"), ("b", "a", "c"), ("b", "a", "c")),
    "a version and its reverse": (("a", "b", "c"), ("c", "b", "a")),
    "rows inserted late": (("b",), ("b", "a"), ("c", "b", "a"), ("c", "b", "d", "a")),
    "rows inserted late and removed": (("a", "b"), ("x", "a", "b"), ("b", "x", "a", "y"), ("b", "y", "a"), ("b", "a")),
    "rows that left before each live row": (("x", "a", "y", "b", "z", "c"), ("z", "c", "b", "a"), ("b", "c", "a")),
    "no row stays": (("x", "y"), ("a", "b"), ("b", "a")),
    "rows in no alphabetical order": (("c", "x", "aa", "b"), ("b", "aa", "c", "a"), ("aa", "a", "c", "b")),
}


def versions_of(rows):
    """Return all versions of some of these rows."""
    return [version for many in range(len(rows) + 1) for version in permutations(rows, many)]


def histories_of(rows, many):
    """Return all histories of so many versions of these rows."""
    return [history for history in product(versions_of(rows), repeat=many) if is_history(history)]


@lru_cache
def small_histories():
    """Return all histories of a few rows and versions, and the edges."""
    found = [*EDGES.values(), DOCUMENT]
    for rows, many in [("abc", 1), ("ab", 2), ("ab", 3), ("ab", 4), ("abc", 2), ("abc", 3)]:
        found += histories_of(tuple(rows), many)
    # Some of the histories that are too many.
    found += histories_of(tuple("abcd"), 2)[::5]
    found += list(product(permutations("abcd"), repeat=3))[::17]
    found += [edited_history(seed) for seed in range(300)]
    return found


def edited_history(seed):
    """Return a history of two to eight versions that grows by inserting, removing and moving rows."""
    chance = Random(seed)
    unused = list("abcdefghij")
    chance.shuffle(unused)
    version = [unused.pop() for _ in range(chance.randrange(1, 6))]
    versions = [tuple(version)]
    for _ in range(chance.randrange(1, 8)):
        word = chance.choice(["insert", "remove", "move", "move", "shuffle", "shuffle"])
        moved = []
        if word == "shuffle":
            chance.shuffle(version)
        if word in ("remove", "move") and version:
            moved.append(version.pop(chance.randrange(len(version))))
        if word == "insert" and len(version) < 6 and unused:
            moved.append(unused.pop())
        if word != "remove" and moved:
            version.insert(chance.randrange(len(version) + 1), moved[0])
        versions.append(tuple(version))
    return tuple(versions)


@lru_cache
def fewer_histories():
    """Return some of the small histories, for tests that take long for each."""
    return [*EDGES.values(), DOCUMENT] + small_histories()[11::7]


def long_history(seed, many_rows=24, many_versions=40):
    """Return a history in which many rows have many paths: some rows before half of the others, in any order."""
    chance = Random(seed)
    half = many_rows // 2
    front, back = list(letters_rows(many_rows))[:half], list(letters_rows(many_rows))[half:]
    versions = []
    for _ in range(many_versions):
        chance.shuffle(front)
        chance.shuffle(back)
        versions.append(tuple(front[:half // 2] + back + front[half // 2:]))
    return tuple(versions)


def rotations(many_rows, many_versions):
    """Return the history in which each version starts one row later than the one before."""
    rows = letters_rows(many_rows)
    return tuple(rows[number % many_rows:] + rows[:number % many_rows] for number in range(many_versions))


def free_chains(lengths):
    """Return a history of as many rows as these lengths say together.

    Its reachable sets are those that have any beginning of each of the rows'
    groups, so they are as many as the product of the lengths plus one each.
    """
    rows = list(letters_rows(sum(lengths)))
    groups = []
    for length in lengths:
        groups.append(tuple(rows[:length]))
        del rows[:length]
    return tuple(group + tuple(row for other in groups if other != group for row in other) for group in groups)


def canonical(row_sets):
    """Return the tuple of these row sets in canonical order."""
    return tuple(sorted(row_sets, key=lambda rows: (len(rows), rows)))


def prefix_sets_of(order):
    """Return the sets of the first 0, 1, 2, ... rows of the order."""
    return [tuple(sorted(order[:many])) for many in range(len(order) + 1)]


def unions_of_choices(places):
    """Return the sets that have one of the sets of each place, in canonical order."""
    unions = {()}
    for place in places:
        unions = {tuple(sorted({*union, *rows})) for union in unions for rows in place}
    return canonical(unions)


def unions_of(orders):
    """Return the unions of one prefix set of each order, in canonical order."""
    return unions_of_choices([prefix_sets_of(order) for order in orders])


def row_sets_of(history):
    """Return all row sets of the history."""
    live = sorted(history[-1])
    return [rows for many in range(len(live) + 1) for rows in combinations(live, many)]


@lru_cache(maxsize=None)
def walked_sets(history):
    """Return the row sets that devices have been sent, in canonical order, by all schedules request by request."""
    states = {frozenset()}
    for version in history:
        after = set()
        for sent in states:
            unsent = [row for row in version if row not in sent]
            after.update(sent.union(unsent[:count]) for count in range(len(unsent) + 1))
        states = after
    return canonical({tuple(sorted(sent.intersection(history[-1]))) for sent in states})


def before_in(history, number, row):
    """Return the live rows before the row in this version."""
    version = history[number]
    return [other for other in version[:version.index(row)] if other in history[-1]]


def supports(history, rows, number, row):
    """Return whether the version with this number supports the row."""
    return row in history[number] and all(other in rows for other in before_in(history, number, row))


def defined_reachable(history, value):
    """Return whether any value is one of the sets that some schedule sends."""
    return value.__class__ is tuple and value in walked_sets(history)


@lru_cache(maxsize=None)
def defined_paths(history):
    """Return the pairs of each live row and each smallest reachable set that contains it."""
    found = []
    for row in sorted(history[-1]):
        holding = [rows for rows in walked_sets(history) if row in rows]
        found += [(row, rows) for rows in holding if not any(set(other) < set(rows) for other in holding)]
    return tuple(found)


def defined_path_sets(history):
    """Return the list of all paths."""
    return [path for row, path in defined_paths(history)]


def defined_width(history):
    """Return the size of the largest set of paths none of which contains another one, by trying all of them."""
    return largest_antichain([set(path) for path in defined_path_sets(history)])


def largest_antichain(paths):
    if not paths:
        return 0
    first, others = paths[0], paths[1:]
    apart = [other for other in others if not other <= first and not first <= other]
    return max(largest_antichain(others), 1 + largest_antichain(apart))


def defined_shows_reachable(history, rows, value):
    """Return whether any value is a certificate that the row set is reachable."""
    if value.__class__ is not tuple or len(value) != len(rows):
        return False
    numbers = range(len(history))
    return all(number.__class__ is int and number in numbers and supports(history, rows, number, row)
               for row, number in zip(rows, value))


def defined_shows_unreachable(history, rows, value):
    """Return whether any value is a certificate that the row set is not reachable."""
    if value.__class__ is not tuple or len(value) != 2 or value[1].__class__ is not tuple:
        return False
    row, pairs = value
    if row.__class__ is not str or row not in rows:
        return False
    if any(pair.__class__ is not tuple or len(pair) != 2 or pair[0].__class__ is not int for pair in pairs):
        return False
    if [pair[0] for pair in pairs] != [number for number in range(len(history)) if row in history[number]]:
        return False
    return all(blocker.__class__ is str and blocker in before_in(history, number, row) and blocker not in rows
               for number, blocker in pairs)


def is_tuple_of_paths(history, value):
    paths = defined_path_sets(history)
    return value.__class__ is tuple and all(item.__class__ is tuple and item in paths for item in value)


def defined_shows_antichain(history, value):
    """Return whether any value is an antichain of paths in canonical order."""
    if not is_tuple_of_paths(history, value) or value != canonical(set(value)):
        return False
    return not any(set(one) < set(other) for one in value for other in value)


def defined_shows_chains(history, value):
    """Return whether any value is a tuple of chains that contain every path once."""
    if value.__class__ is not tuple:
        return False
    for chain in value:
        if not is_tuple_of_paths(history, chain) or not chain:
            return False
        if any(not set(chain[place]) < set(chain[place + 1]) for place in range(len(chain) - 1)):
            return False
    shown = [path for chain in value for path in chain]
    return sorted(shown) == sorted(defined_path_sets(history))
