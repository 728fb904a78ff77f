"""The width, antichains and chains."""

from itertools import permutations
from random import Random

from movingpages.chains import find_antichain, find_chains, shows_antichain, shows_chains, width_of
from movingpages.paths import all_paths
from tests.histories import (
    DOCUMENT, EDGES, canonical, defined_path_sets, defined_shows_antichain, defined_shows_chains, defined_width,
    edited_history, free_chains, long_history, rotations, row_sets_of, small_histories,
)
from tests.samples import CHANGES, PagesTest, any_values, as_list, letters_rows, variants


class FindTest(PagesTest):
    def assert_width(self, history, width):
        """Check that the antichain and the chains are as many as this, and are what they have to be."""
        paths = [path for row, path in all_paths(history)]
        antichain, chains = find_antichain(history), find_chains(history)
        self.assertEqual([width_of(history), len(antichain), len(chains)], [width] * 3)
        self.assertEqual([antichain.__class__, chains.__class__], [tuple, tuple])
        self.assertEqual(antichain, canonical(set(antichain)))
        self.assertTrue(all(path in paths for path in antichain))
        self.assertFalse(any(set(one) < set(other) for one in antichain for other in antichain))
        self.assertEqual(sorted(path for chain in chains for path in chain), sorted(paths))
        for chain in chains:
            self.assertIs(chain.__class__, tuple)
            self.assertGreater(len(chain), 0)
            self.assertTrue(all(set(one) < set(other) for one, other in zip(chain, chain[1:])))
        self.assertIs(shows_antichain(history, antichain), True)
        self.assertIs(shows_chains(history, chains), True)

    def test_against_all_sets_of_paths(self):
        for history in small_histories():
            self.assert_width(history, defined_width(history))

    def test_random_histories_of_six_rows(self):
        for seed in range(60):
            history = long_history(seed, 6, 2 + seed % 7)
            self.assert_width(history, defined_width(history))

    def test_no_live_rows(self):
        for history in [((),), ((), ()), (("a", "b"), ())]:
            self.assert_width(history, 0)
            self.assertEqual([find_antichain(history), find_chains(history)], [(), ()])

    def test_known_widths(self):
        rows = letters_rows(24)
        self.assert_width((rows,), 1)
        self.assert_width((rows,) * 40, 1)
        self.assert_width((rows, tuple(reversed(rows))) * 20, 2)
        self.assert_width(rotations(24, 40), 24)
        self.assert_width(rotations(24, 7), 7)
        self.assert_width(free_chains([1, 2, 3, 4, 5, 6]), 6)
        self.assert_width((("a", "b", "c"),) * 3, 1)

    def test_fewer_chains_than_a_greedy_choice_finds(self):
        # The path of a is in those of b and c. Joined to the path of b, it leaves none for the path of c.
        self.assert_width((("a", "c", "b"),), 1)
        self.assertEqual(find_chains((("a", "c", "b"),)), ((("a",), ("a", "c"), ("a", "b", "c")),))

    def test_24_rows_and_40_versions(self):
        for seed in range(3):
            history = long_history(seed)
            self.assert_width(history, len(find_antichain(history)))
            self.assertGreater(len(all_paths(history)), 400)


class ShowsTest(PagesTest):
    histories = [DOCUMENT, *EDGES.values(), *(edited_history(seed) for seed in range(12))]

    def assert_both(self, history, value):
        """Check both functions at any value against the words of the document."""
        self.assertIs(shows_antichain(history, value), defined_shows_antichain(history, value))
        self.assertIs(shows_chains(history, value), defined_shows_chains(history, value))

    def test_any_value(self):
        for history in self.histories:
            for value in any_values():
                self.assert_both(history, value)

    def test_any_changed_part(self):
        for history in self.histories:
            for good in (find_antichain(history), find_chains(history)):
                for change in CHANGES:
                    for value in variants(good, change):
                        self.assert_both(history, value)

    def test_every_tuple_of_few_row_sets(self):
        for history in small_histories()[::9]:
            row_sets = row_sets_of(history)[:8]
            for many in (0, 1, 2, 3):
                for value in permutations(row_sets, many):
                    self.assertIs(shows_antichain(history, value), defined_shows_antichain(history, value))

    def test_every_way_to_cut_a_sequence_into_chains(self):
        for history in small_histories()[::9]:
            paths = defined_path_sets(history)
            for seed in range(4):
                sequence = tuple(Random(seed).sample(paths, len(paths)))
                for first in range(len(paths) + 1):
                    for second in range(first, len(paths) + 1):
                        parts = (sequence[:first], sequence[first:second], sequence[second:])
                        self.assert_both(history, parts)
                        self.assert_both(history, tuple(part for part in parts if part))

    def test_lists_are_refused(self):
        for history in self.histories:
            for value in variants(find_antichain(history), as_list):
                self.assertIs(shows_antichain(history, value), False)
            for value in variants(find_chains(history), as_list):
                self.assertIs(shows_chains(history, value), False)

    def test_antichains_however_many(self):
        for value in [(), (("a",),), (("b",),), (("a",), ("b",)), (("a", "b", "c"), ("a", "b", "d"))]:
            self.assertIs(shows_antichain(DOCUMENT, value), True, value)
        wrong = [
            (("b",), ("a",)), (("a",), ("a",)), (("a",), ("a", "b", "c")), (("a", "b", "c"), ("a",)),
            (("a", "b", "d"), ("a", "b", "c")), (("a", "b"),), ((),), (("x",),), (("a",), ("b",), ("c",)),
            (("a",), ("b",), ("a", "b", "d")), ("a", "b"), ("a",), (("b", "a", "c"),), (("a", "a"),),
        ]
        for value in wrong:
            self.assertIs(shows_antichain(DOCUMENT, value), False, value)

    def test_chains_however_many(self):
        a, b, c, d = ("a",), ("b",), ("a", "b", "c"), ("a", "b", "d")
        right = [((a, c), (b, d)), ((b, d), (a, c)), ((a, d), (b, c)), ((a,), (b, c), (d,)), ((c,), (d,), (b,), (a,))]
        for value in right:
            self.assertIs(shows_chains(DOCUMENT, value), True, value)
        wrong = [
            (), ((a, c), (b,)), ((a, c), (b, d), (d,)), ((a, c), (b, d), ()), ((), (a, c), (b, d)), ((c, a), (b, d)),
            ((a, b), (c, d)), ((a, a, c), (b, d)), ((a, c), (b, c), (d,)), ((a, c), (b, d), (a,)), (a, c, b, d),
            ((a, c), (b, ("a", "b"), d)), ((a, c), ((), b, d)), ((a, c), (b, ("b", "a", "d"))),
            ((a, c), (b, d), (("x",),)),
        ]
        for value in wrong:
            self.assertIs(shows_chains(DOCUMENT, value), False, value)

    def test_no_live_rows(self):
        for history in [((),), (("a", "b"), ())]:
            self.assertIs(shows_antichain(history, ()), True)
            self.assertIs(shows_chains(history, ()), True)
            for value in [((),), (("a",),), ((("a",),),), [], None, ""]:
                self.assertIs(shows_antichain(history, value), False)
                self.assertIs(shows_chains(history, value), False)

    def test_rows_that_left(self):
        history = EDGES["rows that left before each live row"]
        self.assertIs(shows_antichain(history, (("a",), ("b",), ("c",))), True)
        self.assertIs(shows_antichain(history, (("x",),)), False)
        self.assertIs(shows_chains(history, ((("a",),), (("b",),), (("c",),))), True)
        self.assertIs(shows_chains(history, ((("a",), ("a", "x")), (("b",),), (("c",),))), False)

    def test_24_rows_and_40_versions(self):
        rows = letters_rows(24)
        singles = tuple((row,) for row in rows)
        history = rotations(24, 40)
        self.assertIs(shows_antichain(history, singles), True)
        self.assertIs(shows_antichain(history, singles[1:]), True)
        self.assertIs(shows_antichain(history, singles[1:] + singles[:1]), False)
        self.assertIs(shows_chains(history, tuple((path,) for path in singles)), True)
        self.assertIs(shows_chains(history, tuple((path,) for path in singles[1:])), False)
        prefixes = tuple(rows[:many] for many in range(1, 25))
        self.assertIs(shows_chains((rows,) * 40, (prefixes,)), True)
        self.assertIs(shows_chains((rows,) * 40, (prefixes[:23],)), False)
