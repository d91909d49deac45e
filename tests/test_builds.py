"""Promises [81], [82], [83], [4] of orders put together, and [2], [3] where they bear on them."""

import itertools
import unittest

from nearorders.builds import rows_stacked, side_by, stacked, without
from nearorders.errors import NoOrder, NoRow, NoThing, TooFew, TooMany
from nearorders.orders import is_order, turned
from nearorders.rows import is_row, span_of
from nearorders.seatings import least_reach
from nearorders.spans import best_rows, least_span
from tests.helper import (
    LARGER, NO_ORDERS, NO_ROWS, ORDERS, SMALL, WHATEVER, chain, has_refusal, least_reach_by_words, least_span_by_words,
    no_numbers, rows_by_words, span_by_words,
)

OF_BOTH = [stacked, side_by]

TWO_BY_ONE = (3, ((1, 0),))

# Two orders that come to 6 things at most: all small ones, and some with those of five things.
BOTH = [(one, other) for one in SMALL[:23] for other in SMALL[:23]]
BOTH += [(one, other) for one in SMALL[:4] for other in SMALL[23::3]]
BOTH += [(one, other) for one in SMALL[23::3] for other in SMALL[:4]]
BOTH += [both for order in LARGER if order[0] == 5 for both in ((order, (1, ())), ((1, ()), order))]

# Two orders that come to 7 things or more.
TOO_MANY = [
    ((1, ()), (6, ())), ((6, ()), (1, ())), ((2, ()), (5, ())), ((5, ()), (2, ((0, 1),))), ((3, ()), (4, ())),
    ((4, ((0, 1), (2, 3))), TWO_BY_ONE), (chain(6), (1, ())), ((1, ()), chain(6)), ((6, ()), (6, ())),
    (chain(6), chain(6)), (chain(4), chain(4)),
]


class OfBoth(unittest.TestCase):
    def test_some_stacked(self):
        self.assertEqual(stacked((1, ()), (1, ())), (2, ((0, 1),)))
        self.assertEqual(stacked((2, ()), (1, ())), (3, ((0, 2), (1, 2))))
        self.assertEqual(stacked((1, ()), (2, ())), (3, ((0, 1), (0, 2))))
        self.assertEqual(stacked((2, ((1, 0),)), (2, ())), (4, ((0, 2), (0, 3), (1, 0), (1, 2), (1, 3))))
        self.assertEqual(stacked((2, ()), (2, ((1, 0),))), (4, ((0, 2), (0, 3), (1, 2), (1, 3), (3, 2))))
        self.assertEqual(stacked((3, ()), (3, ())), (6, tuple((a, b) for a in (0, 1, 2) for b in (3, 4, 5))))

    def test_some_side_by_side(self):
        self.assertEqual(side_by((1, ()), (1, ())), (2, ()))
        self.assertEqual(side_by((2, ((1, 0),)), (1, ())), (3, ((1, 0),)))
        self.assertEqual(side_by((1, ()), (2, ((1, 0),))), (3, ((2, 1),)))
        self.assertEqual(side_by(TWO_BY_ONE, (3, ((0, 2), (1, 2)))), (6, ((1, 0), (3, 5), (4, 5))))
        self.assertEqual(side_by((3, ()), (3, ())), (6, ()))

    def test_all_things_in_one_row(self):
        for first in range(1, 6):
            for second in range(1, 7 - first):
                self.assertEqual(stacked(chain(first), chain(second)), chain(first + second))
                self.assertEqual(
                    side_by(chain(first), chain(second)),
                    (first + second, chain(first)[1] + tuple((a + first, b + first) for a, b in chain(second)[1])),
                )

    def test_all_by_the_words(self):
        for one, other in BOTH:
            first, many = one[0], one[0] + other[0]
            on_stack, beside = stacked(one, other), side_by(one, other)
            for told in (on_stack, beside):
                self.assertIs(is_order(told), True, (one, other))
                self.assertEqual(told[0], many)
            for a, b in itertools.product(range(many), repeat=2):
                of_one = b < first and (a, b) in one[1]
                of_other = a >= first and (a - first, b - first) in other[1]
                self.assertIs((a, b) in on_stack[1], of_one or of_other or a < first <= b, (one, other, a, b))
                self.assertIs((a, b) in beside[1], of_one or of_other, (one, other, a, b))

    def test_which_is_the_first_counts(self):
        self.assertNotEqual(stacked((2, ()), (1, ())), stacked((1, ()), (2, ())))
        self.assertNotEqual(side_by((2, ((0, 1),)), (1, ())), side_by((1, ()), (2, ((0, 1),))))

    def test_an_order_with_itself(self):
        self.assertEqual(stacked(TWO_BY_ONE, TWO_BY_ONE)[0], 6)
        self.assertEqual(side_by(TWO_BY_ONE, TWO_BY_ONE), (6, ((1, 0), (4, 3))))

    def test_just_six_and_seven(self):
        for told in OF_BOTH:
            for first in range(1, 6):
                self.assertEqual(told((first, ()), (6 - first, ()))[0], 6)
            for first in range(1, 7):
                has_refusal(self, TooMany, told, (first, ()), (7 - first, ()))
            for one, other in TOO_MANY:
                has_refusal(self, TooMany, told, one, other)

    def test_no_order_ahead_of_too_many(self):
        for told in OF_BOTH:
            for order in NO_ORDERS:
                for other in [(1, ()), (6, ()), None]:
                    has_refusal(self, NoOrder, told, order, other)
                    has_refusal(self, NoOrder, told, other, order)


class Numbers(unittest.TestCase):
    def test_of_two_stacked_the_greater_ones_count(self):
        for one, other in BOTH[::3]:
            both = stacked(one, other)
            self.assertEqual(least_span(both), max(least_span(one), least_span(other)), both)
            self.assertEqual(least_reach(both), max(least_reach(one), least_reach(other)), both)
            self.assertEqual(least_span(both), max(least_span_by_words(one), least_span_by_words(other)), both)
            self.assertEqual(least_reach(both), max(least_reach_by_words(one), least_reach_by_words(other)), both)

    def test_without_a_thing_they_are_never_greater(self):
        for order in ORDERS:
            for thing in range(order[0] if order[0] > 1 else 0):
                less = without(order, thing)
                self.assertLessEqual(least_span(less), least_span(order), (order, thing))
                self.assertLessEqual(least_reach(less), least_reach(order), (order, thing))

    def test_turned_about_they_are_the_same(self):
        for one, other in BOTH[::5]:
            self.assertEqual(turned(side_by(one, other)), side_by(turned(one), turned(other)))
            for both in (stacked(one, other), side_by(one, other)):
                self.assertEqual(least_span(turned(both)), least_span(both))
                self.assertEqual(least_reach(turned(both)), least_reach(both))


class Without(unittest.TestCase):
    def test_the_first_one_in_the_middle_and_the_last_one(self):
        order = (4, ((0, 1), (0, 3), (2, 3)))
        self.assertEqual(without(order, 0), (3, ((1, 2),)))
        self.assertEqual(without(order, 1), (3, ((0, 2), (1, 2))))
        self.assertEqual(without(order, 2), (3, ((0, 1), (0, 2))))
        self.assertEqual(without(order, 3), (3, ((0, 1),)))

    def test_what_went_through_the_thing_stays(self):
        self.assertEqual(without((3, ((0, 1), (0, 2), (1, 2))), 1), (2, ((0, 1),)))
        self.assertEqual(without((3, ((1, 0), (2, 0), (2, 1))), 1), (2, ((1, 0),)))

    def test_all_things_loose_and_all_in_one_row(self):
        for many in range(2, 7):
            for thing in range(many):
                self.assertEqual(without((many, ()), thing), (many - 1, ()))
                self.assertEqual(without(chain(many), thing), chain(many - 1))

    def test_all_by_the_words(self):
        for order in ORDERS:
            many, pairs = order
            for thing in range(many if many > 1 else 0):
                told = without(order, thing)
                self.assertIs(is_order(told), True, (order, thing))
                self.assertEqual(told[0], many - 1)
                for a, b in itertools.product(range(many - 1), repeat=2):
                    before = (a + (a >= thing), b + (b >= thing))
                    self.assertIs((a, b) in told[1], before in pairs, (order, thing))

    def test_it_undoes_what_was_put_together(self):
        for order in SMALL:
            for told in OF_BOTH:
                self.assertEqual(without(told(order, (1, ())), order[0]), order)
                self.assertEqual(without(told((1, ()), order), 0), order)

    def test_no_thing(self):
        for order in [(2, ()), TWO_BY_ONE, chain(6)]:
            for thing in no_numbers(0, order[0] - 1):
                has_refusal(self, NoThing, without, order, thing)

    def test_one_thing_alone(self):
        has_refusal(self, TooFew, without, (1, ()), 0)

    def test_no_thing_ahead_of_too_few(self):
        for thing in no_numbers(0, 0):
            has_refusal(self, NoThing, without, (1, ()), thing)

    def test_no_order_ahead_of_all_else(self):
        for order in NO_ORDERS:
            for thing in (0, 6, None, True):
                has_refusal(self, NoOrder, without, order, thing)


class RowsStacked(unittest.TestCase):
    def test_some(self):
        self.assertEqual(rows_stacked((1, ()), (1, ()), (0,), (0,)), (0, 1))
        self.assertEqual(rows_stacked((2, ()), (1, ()), (1, 0), (0,)), (1, 0, 2))
        self.assertEqual(rows_stacked((1, ()), (2, ()), (0,), (1, 0)), (0, 2, 1))
        self.assertEqual(rows_stacked(TWO_BY_ONE, (3, ()), (1, 2, 0), (2, 0, 1)), (1, 2, 0, 5, 3, 4))
        self.assertEqual(rows_stacked((1, ()), (5, ()), (0,), (4, 3, 2, 1, 0)), (0, 5, 4, 3, 2, 1))

    def test_the_span_is_the_greater_one_of_both(self):
        for one, other in BOTH[::11]:
            both = stacked(one, other)
            for row in rows_by_words(one)[::3]:
                for more in rows_by_words(other)[::3]:
                    told = rows_stacked(one, other, row, more)
                    self.assertEqual(told, row + tuple(thing + one[0] for thing in more))
                    self.assertIs(is_row(both, told), True)
                    greater = max(span_by_words(one, row), span_by_words(other, more))
                    self.assertEqual(span_of(both, told), greater)

    def test_best_rows_of_both_are_the_best_ones(self):
        for one, other in BOTH[::13]:
            both = stacked(one, other)
            told = rows_stacked(one, other, best_rows(one)[0], best_rows(other)[0])
            self.assertIn(told, best_rows(both))

    def test_no_row(self):
        for thing in NO_ROWS:
            has_refusal(self, NoRow, rows_stacked, (3, ()), (1, ()), thing, (0,))
            has_refusal(self, NoRow, rows_stacked, (1, ()), (3, ()), (0,), thing)
        for thing in WHATEVER:
            has_refusal(self, NoRow, rows_stacked, (3, ()), (3, ()), thing, thing)

    def test_no_row_of_the_order_it_is_for(self):
        one, other = (3, ((0, 1),)), (3, ((1, 0),))
        self.assertEqual(rows_stacked(one, other, (0, 1, 2), (1, 0, 2)), (0, 1, 2, 4, 3, 5))
        has_refusal(self, NoRow, rows_stacked, one, other, (1, 0, 2), (1, 0, 2))
        has_refusal(self, NoRow, rows_stacked, one, other, (0, 1, 2), (0, 1, 2))
        has_refusal(self, NoRow, rows_stacked, one, other, (0, 1, 2), (4, 3, 5))
        has_refusal(self, NoRow, rows_stacked, (1, ()), (2, ()), (0, 1), (0,))

    def test_too_many_ahead_of_no_row(self):
        for one, other in TOO_MANY:
            for row in (tuple(range(one[0])), None, (), [0], (True,)):
                for more in (tuple(range(other[0])), None, (), [0], (True,)):
                    has_refusal(self, TooMany, rows_stacked, one, other, row, more)

    def test_no_order_ahead_of_all_else(self):
        for order in NO_ORDERS:
            for other in [(1, ()), (6, ()), None]:
                for row in ((0,), None):
                    has_refusal(self, NoOrder, rows_stacked, order, other, row, row)
                    has_refusal(self, NoOrder, rows_stacked, other, order, row, row)


if __name__ == "__main__":
    unittest.main()
