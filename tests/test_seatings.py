"""Promises [51], [52], [53], [4] of shared places, and [2], [3] where they bear on them."""

import copy
import itertools
import unittest

from nearorders.errors import NoNumber, NoOrder, NoSeating
from nearorders.orders import turned
from nearorders.rows import all_rows, is_row, span_of
from nearorders.seatings import is_seating, least_reach, least_seating, reach_of, row_by, seated
from nearorders.spans import least_span
from tests.helper import (
    ANYTHING, LARGER, NO_ORDERS, ORDERS, SMALL, WHATEVER, chain, has_refusal, least_reach_by_words,
    least_span_by_words, no_numbers, seatings_by_words,
)

ALL_BUT_ONE = (3, ((0, 1), (0, 2)))
TWO_CHAINS = (6, ((0, 1), (0, 2), (1, 2), (3, 4), (3, 5), (4, 5)))
TWO_BY_ONE = (3, ((2, 0),))

# What is no seating of the order of three loose things.
NO_SEATINGS = WHATEVER + [
    (0, 0), (0, 0, 0, 0), (0, 0, 3), (3, 0, 0), (0, -1, 0), (0, 0, 10 ** 29), (-(10 ** 29), 0, 0), [0, 0, 0], "000",
    {0: 0, 1: 0, 2: 0}, (False, False, False), (0, True, 0), (0, 0, None), (0, 0, "0"), (0, [0], 0), (0, (0,), 0),
    ((0, 0, 0),), ((0, 0), 0), ([], [], []), ({}, {}, {}), (0, 0, 0.0), (0, 1, 2.0), range(3), {0, 1, 2}, (None,) * 3,
]


class IsSeating(unittest.TestCase):
    def test_some(self):
        self.assertIs(is_seating(ALL_BUT_ONE, (0, 1, 1)), True)
        self.assertIs(is_seating(ALL_BUT_ONE, (0, 2, 1)), True)
        self.assertIs(is_seating(ALL_BUT_ONE, (1, 2, 2)), True)
        self.assertIs(is_seating(ALL_BUT_ONE, (0, 0, 1)), False)
        self.assertIs(is_seating(ALL_BUT_ONE, (1, 1, 2)), False)
        self.assertIs(is_seating(ALL_BUT_ONE, (2, 1, 0)), False)
        self.assertIs(is_seating((1, ()), (0,)), True)

    def test_places_at_their_edges(self):
        for many in range(1, 7):
            for at in range(many):
                for place in range(-2, many + 2):
                    places = (0,) * at + (place,) + (0,) * (many - 1 - at)
                    self.assertIs(is_seating((many, ()), places), 0 <= place < many, places)

    def test_things_one_ahead_of_the_other_share_no_place(self):
        for many in range(2, 7):
            for a, b in itertools.permutations(range(many), 2):
                order = (many, ((a, b),))
                for low, high in itertools.product(range(many), repeat=2):
                    places = tuple({a: low, b: high}.get(thing, 0) for thing in range(many))
                    self.assertIs(is_seating(order, places), low < high, (order, places))

    def test_all_things_in_one_row_have_one_seating(self):
        for many in range(1, 6):
            every = itertools.product(range(many), repeat=many)
            self.assertEqual([places for places in every if is_seating(chain(many), places)], [tuple(range(many))])

    def test_all_tuples_of_few_places(self):
        for order in SMALL:
            many = order[0]
            right = {seating for seating, reach in seatings_by_words(order)}
            for places in itertools.product(range(many), repeat=many):
                self.assertIs(is_seating(order, places), places in right, (order, places))

    def test_no_seatings(self):
        for thing in NO_SEATINGS:
            self.assertIs(is_seating((3, ()), thing), False, thing)

    def test_anything(self):
        for thing in ANYTHING:
            for order in [(2, ()), chain(5), (6, ())]:
                self.assertIs(is_seating(order, thing), False, thing)
            self.assertIs(is_seating((1, ()), thing), type(thing) is tuple and repr(thing) == "(0,)", thing)
            self.assertIs(is_seating((2, ()), (thing, 0)), type(thing) is int and thing in (0, 1), thing)
            self.assertIs(is_seating((2, ()), (1, thing)), type(thing) is int and thing in (0, 1), thing)
            self.assertIs(is_seating((2, ((0, 1),)), (0, thing)), type(thing) is int and thing == 1, thing)

    def test_the_places_of_a_row_are_one(self):
        for order in ORDERS[::4]:
            for row in all_rows(order):
                places = tuple(row.index(thing) for thing in range(order[0]))
                self.assertIs(is_seating(order, places), True)
                self.assertEqual(reach_of(order, places), span_of(order, row))
                self.assertEqual(row_by(order, places), row)

    def test_nothing_is_changed(self):
        for thing in [[2, 1, 0], ([2], [1], [0]), {2: [1]}]:
            before = copy.deepcopy(thing)
            is_seating((3, ()), thing)
            self.assertEqual(thing, before)


class OfASeating(unittest.TestCase):
    def test_some_reaches(self):
        self.assertEqual(reach_of((3, ()), (0, 0, 0)), 0)
        self.assertEqual(reach_of((3, ()), (0, 0, 2)), 2)
        self.assertEqual(reach_of((3, ()), (2, 1, 1)), 1)
        self.assertEqual(reach_of((6, ()), (5, 5, 0, 5, 5, 5)), 5)
        self.assertEqual(reach_of(ALL_BUT_ONE, (0, 1, 1)), 0)
        self.assertEqual(reach_of(ALL_BUT_ONE, (0, 1, 2)), 1)
        self.assertEqual(reach_of(TWO_CHAINS, (0, 1, 2, 3, 4, 5)), 5)
        self.assertEqual(reach_of(TWO_CHAINS, (0, 1, 2, 0, 1, 2)), 2)

    def test_none_are_loose(self):
        for many in range(1, 7):
            places = tuple(range(many))
            self.assertEqual(reach_of(chain(many), places), 0)
            self.assertEqual(row_by(chain(many), places), places)
            self.assertEqual(reach_of(turned(chain(many)), places[::-1]), 0)
            self.assertEqual(row_by(turned(chain(many)), places[::-1]), places[::-1])

    def test_some_rows_with_several_things_at_one_place(self):
        self.assertEqual(row_by((1, ()), (0,)), (0,))
        self.assertEqual(row_by((3, ()), (0, 0, 0)), (0, 1, 2))
        self.assertEqual(row_by((3, ()), (2, 0, 2)), (1, 0, 2))
        self.assertEqual(row_by((3, ()), (1, 1, 0)), (2, 0, 1))
        self.assertEqual(row_by(TWO_BY_ONE, (1, 0, 0)), (1, 2, 0))
        self.assertEqual(row_by(TWO_BY_ONE, (1, 1, 0)), (2, 0, 1))
        self.assertEqual(row_by((6, ()), (5, 0, 5, 0, 3, 0)), (1, 3, 5, 4, 0, 2))
        self.assertEqual(row_by(TWO_CHAINS, (0, 1, 2, 0, 1, 2)), (0, 3, 1, 4, 2, 5))

    def test_all_by_the_words(self):
        for order in SMALL:
            for seating, reach in seatings_by_words(order):
                self.assertEqual(reach_of(order, seating), reach)
                by_places = [thing for place in range(4) for thing in range(order[0]) if seating[thing] == place]
                self.assertEqual(row_by(order, seating), tuple(by_places))

    def test_its_row_is_a_row(self):
        for order in LARGER:
            for seating, reach in seatings_by_words(order)[::97]:
                self.assertEqual(reach_of(order, seating), reach)
                self.assertIs(is_row(order, row_by(order, seating)), True)

    def test_no_seating(self):
        for told in (reach_of, row_by):
            for thing in NO_SEATINGS:
                has_refusal(self, NoSeating, told, (3, ()), thing)
            has_refusal(self, NoSeating, told, ALL_BUT_ONE, (0, 0, 1))
            has_refusal(self, NoSeating, told, ALL_BUT_ONE, (1, 2, 1))
            has_refusal(self, NoSeating, told, chain(6), (0, 1, 2, 3, 4, 4))
            has_refusal(self, NoSeating, told, chain(6), (0, 1, 2, 3, 4, 6))
            has_refusal(self, NoSeating, told, (1, ()), (False,))
            has_refusal(self, NoSeating, told, (1, ()), (1,))
            has_refusal(self, NoSeating, told, (1, ()), [0])

    def test_no_order_ahead_of_no_seating(self):
        for told in (is_seating, reach_of, row_by):
            for order in NO_ORDERS:
                has_refusal(self, NoOrder, told, order, (0,))
                has_refusal(self, NoOrder, told, order, None)


class Seated(unittest.TestCase):
    def test_some(self):
        self.assertEqual(seated((1, ()), 0), (0,))
        self.assertEqual(seated((6, ()), 0), (0, 0, 0, 0, 0, 0))
        self.assertEqual(seated(ALL_BUT_ONE, 0), (0, 1, 1))
        self.assertEqual(seated(ALL_BUT_ONE, 5), (0, 1, 1))
        self.assertEqual(seated(TWO_BY_ONE, 0), None)
        self.assertEqual(seated(TWO_BY_ONE, 1), (1, 0, 0))
        self.assertEqual([seated(TWO_CHAINS, reach) for reach in (0, 1)], [None, None])
        self.assertEqual(seated(TWO_CHAINS, 2), (0, 1, 2, 0, 1, 2))

    def test_a_thing_raised_by_those_aside(self):
        # Thing 0 beside a chain of three: with a reach of 1 it has the middle place.
        order = (4, ((1, 2), (1, 3), (2, 3)))
        self.assertEqual([seated(order, reach) for reach in range(4)], [None, (1, 0, 1, 2), (0, 0, 1, 2), (0, 0, 1, 2)])
        # Beside a chain of five, with a reach of 2 it does too.
        order = (6, tuple(itertools.combinations(range(1, 6), 2)))
        self.assertEqual([seated(order, reach) for reach in (1, 2, 3, 4, 5)], [
            None, (2, 0, 1, 2, 3, 4), (1, 0, 1, 2, 3, 4), (0, 0, 1, 2, 3, 4), (0, 0, 1, 2, 3, 4),
        ])

    def test_all_things_in_one_row(self):
        for many in range(1, 7):
            for reach in range(6):
                self.assertEqual(seated(chain(many), reach), tuple(range(many)))
                self.assertEqual(seated(turned(chain(many)), reach), tuple(range(many))[::-1])

    def test_all_by_the_words(self):
        for order in ORDERS:
            for reach in range(6):
                near = [seating for seating, its_reach in seatings_by_words(order) if its_reach <= reach]
                told = seated(order, reach)
                if not near:
                    self.assertIs(told, None, (order, reach))
                    continue
                self.assertEqual(told, tuple(min(places) for places in zip(*near)), (order, reach))
                self.assertIn(told, near)
                self.assertIs(is_seating(order, told), True)
                self.assertLessEqual(reach_of(order, told), reach)

    def test_no_number(self):
        for reach in no_numbers(0, 5):
            for order in [(1, ()), TWO_BY_ONE, chain(6)]:
                has_refusal(self, NoNumber, seated, order, reach)

    def test_no_order_ahead_of_no_number(self):
        for order in NO_ORDERS:
            for reach in [0, 5, 6, -1, None, True, []]:
                has_refusal(self, NoOrder, seated, order, reach)


class Least(unittest.TestCase):
    def test_some(self):
        self.assertEqual(least_reach((1, ())), 0)
        self.assertEqual(least_reach((6, ())), 0)
        self.assertEqual(least_reach(ALL_BUT_ONE), 0)
        self.assertEqual(least_reach(TWO_BY_ONE), 1)
        self.assertEqual(least_reach(TWO_CHAINS), 2)
        self.assertEqual(least_seating((6, ())), (0, 0, 0, 0, 0, 0))
        self.assertEqual(least_seating(TWO_BY_ONE), (1, 0, 0))
        self.assertEqual(least_seating(TWO_CHAINS), (0, 1, 2, 0, 1, 2))
        self.assertEqual(least_seating((4, ((1, 2), (1, 3), (2, 3)))), (1, 0, 1, 2))

    def test_all_things_in_one_row(self):
        for many in range(1, 7):
            self.assertEqual(least_reach(chain(many)), 0)
            self.assertEqual(least_seating(chain(many)), tuple(range(many)))

    def test_all_by_the_words(self):
        for order in ORDERS:
            least = least_reach_by_words(order)
            self.assertEqual(least_reach(order), least, order)
            best = [seating for seating, reach in seatings_by_words(order) if reach == least]
            self.assertEqual(least_seating(order), tuple(min(places) for places in zip(*best)), order)
            self.assertIn(least_seating(order), best)
            self.assertEqual(reach_of(order, least_seating(order)), least)

    def test_no_farther_than_a_row(self):
        for order in ORDERS:
            self.assertLessEqual(least_reach(order), least_span(order))
            self.assertLessEqual(least_reach(order), least_span_by_words(order))

    def test_turned_about_it_is_the_same(self):
        for order in ORDERS:
            self.assertEqual(least_reach(turned(order)), least_reach(order))
            for reach in range(6):
                self.assertIs(seated(turned(order), reach) is None, seated(order, reach) is None)

    def test_the_same_when_asked_again(self):
        for order in ORDERS[::7]:
            self.assertEqual(least_seating(order), least_seating(order))
            self.assertEqual(least_reach(order), least_reach(order))

    def test_no_order(self):
        for told in (least_reach, least_seating):
            for order in NO_ORDERS:
                has_refusal(self, NoOrder, told, order)


if __name__ == "__main__":
    unittest.main()
