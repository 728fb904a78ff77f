"""Schemes, and what is wrong with them for a history."""

from functools import lru_cache
from itertools import combinations_with_replacement, product
from random import Random

from movingpages.chains import width_of
from movingpages.orders import order_gap, smallest_orders
from movingpages.reach import all_reachable
from movingpages.rows import is_row
from movingpages.schemes import is_scheme, scheme_gap, scheme_of
from movingpages.tokens import decode_token
from tests.histories import (
    DOCUMENT, EDGES, defined_path_sets, edited_history, fewer_histories, free_chains, long_history, prefix_sets_of,
    rotations, row_sets_of, small_histories, unions_of, unions_of_choices, walked_sets,
)
from tests.samples import CHANGES, PagesTest, any_values, as_list, letters_rows, variants

RIGHT = [
    (), (((),),), (((), ()),), (((), ("a",)), ((),)), ((("a",),),), ((("a",), ("a",), ("a", "b")), ((),)),
    (((), ("a", "b"), ("a", "b", "c")), ((), ("c",), ("a", "c"))), ((("b",), ("a", "b")),) * 3,
    (((), ("aa", "b"), ("aa", "ab", "b", "zzzzzzzz")),),
]


def is_defined_scheme(value):
    """Return whether any value is a scheme."""
    if value.__class__ is not tuple:
        return False
    for place in value:
        if place.__class__ is not tuple or not place:
            return False
        for rows in place:
            if rows.__class__ is not tuple or not all(is_row(row) for row in rows):
                return False
            if list(rows) != sorted(set(rows)):
                return False
        if any(not set(one) <= set(other) for one, other in zip(place, place[1:])):
            return False
    return True


class IsSchemeTest(PagesTest):
    def test_schemes(self):
        for value in RIGHT:
            self.assertIs(is_scheme(value), True, value)

    def test_any_value(self):
        for value in any_values():
            for held in (value, (value,), ((value,),), (((), value),), (((value,),),), (((), ("a", value)),)):
                self.assertIs(is_scheme(held), is_defined_scheme(held))

    def test_any_changed_part(self):
        for scheme in RIGHT:
            for change in CHANGES:
                for value in variants(scheme, change):
                    self.assertIs(is_scheme(value), is_defined_scheme(value))

    def test_a_list_in_place_of_a_tuple(self):
        for scheme in RIGHT:
            for value in variants(scheme, as_list):
                self.assertIs(is_scheme(value), False)

    def test_the_edges(self):
        wrong = [
            ((),), (((),), ()), ((("b", "a"),),), ((("a", "a"),),), (((), ("a", "b", "b")),), ((("a",), ()),),
            ((("a",), ("b",)),), ((("a", "b"), ("a",)),), ((("a",), ("a", "b"), ("b",)),), (("a",),), (("a", "b"),),
            ("a",), (((), "a"),), (((), ("A",)),), (((), ("",)),), (((), ("abcdefghi",)),), (((), (1,)),),
            (((), (True,)),), (((), (None,)),), (((), (("a",),)),), [((),)], ([()],), (([],),), None, True, 0, "", {},
            {(): ((),)}, (((), ("a", "b"), ("a", "c")),), (((), ("a b",)),), (((), ("a", "B")),),
        ]
        for value in wrong:
            self.assertIs(is_scheme(value), False, value)
        # Equal sets one after the other are allowed.
        self.assertIs(is_scheme((((), (), ("a",), ("a",)),)), True)

    def test_a_hundred_places(self):
        place = tuple(prefix_sets_of(letters_rows(24)))
        self.assertIs(is_scheme((place,) * 100), True)
        self.assertIs(is_scheme((place,) * 99 + (place[::-1],)), False)
        self.assertIs(is_scheme((place,) * 99 + ((),)), False)


class SchemeOfTest(PagesTest):
    def test_places_and_sets(self):
        for orders in [(), ((),), (("b", "a"),), (("c", "a", "b"), ("b",), (), ("a", "b", "c")), (("b", "a"),) * 2]:
            scheme = scheme_of(orders)
            self.assertIs(scheme.__class__, tuple)
            self.assertIs(is_scheme(scheme), True)
            self.assertEqual([len(place) for place in scheme], [len(order) + 1 for order in orders])
            self.assertEqual(scheme, tuple(tuple(prefix_sets_of(order)) for order in orders))

    def test_the_sets_of_the_tokens(self):
        for orders in [(), ((),), (("b", "a"),), (("c", "a", "b"), ("b",), (), ("a", "b", "c"))]:
            scheme = scheme_of(orders)
            for token in product(*(range(len(place)) for place in scheme)):
                chosen = [scheme[at][number] for at, number in enumerate(token)]
                self.assertEqual(tuple(sorted(set().union(*chosen))), decode_token(orders, token))

    def test_a_hundred_orders_of_24_rows(self):
        rows = letters_rows(24)
        orders = tuple(tuple(Random(seed).sample(rows, 24)) for seed in range(100))
        self.assertEqual(scheme_of(orders), tuple(tuple(prefix_sets_of(order)) for order in orders))


def defined_scheme_gap(history, scheme):
    """Return what the document says of this scheme."""
    shown = [rows for place in scheme for rows in place]
    for rows in shown:
        if rows not in walked_sets(history):
            return ("extra", rows)
    if any(place[0] != () for place in scheme):
        return ("missing", ())
    for path in defined_path_sets(history):
        if path not in shown:
            return ("missing", path)
    return None


def places_of(row_sets, longest):
    """Return all places of at most so many of these sets, which may be equal."""
    found = []
    for many in range(1, longest + 1):
        for place in combinations_with_replacement(row_sets, many):
            if all(set(one) <= set(other) for one, other in zip(place, place[1:])):
                found.append(place)
    return found


@lru_cache(maxsize=None)
def longest_places(reachable):
    """Return all places of reachable sets that start with the empty one and have no set left out."""
    places = [((),)]
    found = []
    while places:
        place = places.pop()
        larger = [rows for rows in reachable if len(rows) == len(place[-1]) + 1 and set(place[-1]) < set(rows)]
        places += [place + (rows,) for rows in larger]
        if not larger:
            found.append(place)
    return found


class SchemeGapTest(PagesTest):
    def assert_gap(self, history, scheme):
        gap = scheme_gap(history, scheme)
        self.assertEqual(gap, defined_scheme_gap(history, scheme))
        self.assertEqual(gap is None, unions_of_choices(scheme) == walked_sets(history))
        if gap is not None:
            self.assertEqual([gap.__class__, gap[1].__class__], [tuple, tuple])

    def test_all_schemes_of_two_rows(self):
        for history in [(("a", "b"),), (("a", "b"), ("b", "a")), (("b",), ("a", "b")), ((),), (("a",), ())]:
            row_sets = [(), ("a",), ("b",), ("a", "b"), ("c",), ("a", "c")]
            places = places_of(row_sets, 3)
            for many in (0, 1, 2):
                for scheme in product(places, repeat=many):
                    self.assert_gap(history, scheme)

    def test_drawn_schemes(self):
        for number, history in enumerate(small_histories()[::2]):
            chance = Random(number)
            right = scheme_of(smallest_orders(history))
            self.assert_gap(history, right)
            row_sets = row_sets_of(history)
            for _ in range(4):
                sets = sorted(chance.choices(row_sets, k=3), key=len)
                extra = tuple(rows for at, rows in enumerate(sets) if all(set(one) <= set(rows) for one in sets[:at]))
                self.assert_gap(history, right + (extra,))
                self.assert_gap(history, (extra,) + right)
                self.assert_gap(history, (right + (extra,))[1:])
            for at, place in enumerate(right):
                # Without one of its sets the place may lack a path, and without the first one the empty set.
                for less in range(len(place)):
                    shorter = place[:less] + place[less + 1:]
                    if shorter:
                        self.assert_gap(history, right[:at] + (shorter,) + right[at + 1:])

    def test_a_scheme_of_orders_has_the_gap_of_the_orders(self):
        for number, history in enumerate(fewer_histories()):
            chance = Random(number)
            live = list(history[-1])
            for many in (0, 1, 2, 3):
                orders = tuple(tuple(chance.sample(live, chance.randrange(len(live) + 1))) for _ in range(many))
                self.assertEqual(scheme_gap(history, scheme_of(orders)), order_gap(history, orders))

    def test_no_places(self):
        self.assertEqual(scheme_gap(DOCUMENT, ()), ("missing", ("a",)))
        for history in [((),), (("a", "b"), ())]:
            self.assertIsNone(scheme_gap(history, ()))
            self.assertIsNone(scheme_gap(history, (((),), ((), ()))))

    def test_a_place_whose_first_set_is_not_empty(self):
        self.assertEqual(scheme_gap(DOCUMENT, (((), ("a",)), (("b",), ("a", "b")))), ("missing", ()))
        right = scheme_of(smallest_orders(DOCUMENT))
        self.assertIsNone(scheme_gap(DOCUMENT, right))
        self.assertEqual(scheme_gap(DOCUMENT, right + ((("a",),),)), ("missing", ()))
        self.assertEqual(scheme_gap(DOCUMENT, ((("a",),),) + right), ("missing", ()))
        # A set that is not reachable is found before that, wherever it stands.
        self.assertEqual(scheme_gap(DOCUMENT, ((("a",),), ((), ("c",)))), ("extra", ("c",)))
        self.assertEqual(scheme_gap(DOCUMENT, (((), ("d",)), (("a",),))), ("extra", ("d",)))

    def test_the_first_set_that_is_not_reachable(self):
        self.assertEqual(scheme_gap(DOCUMENT, (((), ("c",)), ((), ("d",)))), ("extra", ("c",)))
        self.assertEqual(scheme_gap(DOCUMENT, (((), ("d",), ("c", "d")), ((), ("c",)))), ("extra", ("d",)))
        self.assertEqual(scheme_gap(DOCUMENT, (((), ("a",), ("a", "c")), (("c",),))), ("extra", ("a", "c")))

    def test_rows_that_are_not_live(self):
        left = EDGES["rows that left before each live row"]
        self.assertEqual(scheme_gap(left, (((), ("a",), ("a", "x")),)), ("extra", ("a", "x")))
        self.assertEqual(scheme_gap(left, ((("x",),),)), ("extra", ("x",)))
        self.assertEqual(scheme_gap((("a",), ()), (((), ("a",)),)), ("extra", ("a",)))
        self.assertIsNone(scheme_gap(left, (((), ("a",)), ((), ("b",)), ((), ("c",)))))

    def test_sets_may_be_left_out_and_repeated(self):
        scheme = (((), (), ("a",), ("a", "b", "c"), ("a", "b", "c")), ((), ("b",), ("a", "b", "d")))
        self.assertIsNone(scheme_gap(DOCUMENT, scheme))
        self.assertEqual(scheme_gap(DOCUMENT, scheme[:1]), ("missing", ("b",)))
        self.assertEqual(scheme_gap(DOCUMENT, scheme[1:]), ("missing", ("a",)))

    def test_a_hundred_places_with_the_needed_ones_last(self):
        right = (((), ("a",), ("a", "b", "c")), ((), ("b",), ("a", "b", "d")))
        others = (((), ("a", "b")),)
        self.assertIsNone(scheme_gap(DOCUMENT, others * 98 + right))
        self.assertEqual(scheme_gap(DOCUMENT, others * 99 + right[:1]), ("missing", ("b",)))
        self.assertEqual(scheme_gap(DOCUMENT, right + others * 97 + (((), ("a", "d")),)), ("extra", ("a", "d")))
        self.assertEqual(scheme_gap(DOCUMENT, right + others * 97 + ((("a", "b"),),)), ("missing", ()))

    def test_24_rows_and_40_versions(self):
        history = rotations(24, 40)
        self.assertIsNone(scheme_gap(history, scheme_of(history)))
        self.assertEqual(scheme_gap(history, scheme_of(history[:23])), ("missing", history[23][:1]))
        history = long_history(4)
        scheme = scheme_of(smallest_orders(history))
        self.assertIsNone(scheme_gap(history, scheme))
        self.assertEqual(scheme_gap(history, scheme[1:])[0], "missing")


class FewestPlacesTest(PagesTest):
    """Guarantee G4."""

    def test_fewer_places_always_have_a_gap(self):
        tried = 0
        for history in fewer_histories():
            width = width_of(history)
            places = longest_places(walked_sets(history))
            # More sets at a place leave fewer gaps, so that trying the places without a set left out is enough.
            if width > 0 and len(places) ** (width - 1) <= 600:
                tried += 1
                for scheme in product(places, repeat=width - 1):
                    self.assertIsNotNone(scheme_gap(history, scheme))
                    self.assertNotEqual(unions_of_choices(scheme), all_reachable(history))
        self.assertGreater(tried, 400)

    def test_drawn_schemes_with_fewer_places(self):
        for history in [DOCUMENT, free_chains([2, 2, 1]), rotations(5, 5), *(edited_history(at) for at in range(20))]:
            for seed in range(40):
                chance = Random(seed)
                places = longest_places(walked_sets(history))
                for many in range(width_of(history)):
                    scheme = tuple(chance.choice(places) for _ in range(many))
                    scheme = tuple(tuple(rows for rows in place if rows == () or chance.random() < 0.8)
                                   for place in scheme)
                    self.assertIsNotNone(scheme_gap(history, scheme))

    def test_as_many_places_suffice(self):
        for history in small_histories():
            scheme = scheme_of(smallest_orders(history))
            self.assertEqual(len(scheme), width_of(history))
            self.assertIsNone(scheme_gap(history, scheme))
            self.assertEqual(unions_of(smallest_orders(history)), unions_of_choices(scheme))
