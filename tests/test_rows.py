"""Promises [21] and [22], and [2], [3] where they bear on them."""

import copy
import itertools
import unittest

from nearorders.errors import NoOrder, NoRow
from nearorders.orders import turned
from nearorders.rows import all_rows, farthest, is_row, rows_many, span_of
from tests.helper import (
    ANYTHING, LARGER, NO_ORDERS, NO_ROWS, ORDERS, SMALL, chain, has_refusal, is_fresh_list, loose_by_words,
    rows_by_words, span_by_words,
)

ALL_BUT_ONE = (3, ((0, 1), (0, 2)))


class IsRow(unittest.TestCase):
    def test_some(self):
        self.assertIs(is_row(ALL_BUT_ONE, (0, 1, 2)), True)
        self.assertIs(is_row(ALL_BUT_ONE, (0, 2, 1)), True)
        self.assertIs(is_row(ALL_BUT_ONE, (1, 0, 2)), False)
        self.assertIs(is_row(ALL_BUT_ONE, (2, 1, 0)), False)
        self.assertIs(is_row((1, ()), (0,)), True)

    def test_all_tuples_of_few_things(self):
        for order in SMALL:
            many = order[0]
            rows = rows_by_words(order)
            for row in itertools.product(range(many), repeat=many):
                self.assertIs(is_row(order, row), row in rows, (order, row))

    def test_tuples_of_six_things(self):
        self.assertIs(is_row((6, ()), (5, 3, 1, 0, 2, 4)), True)
        self.assertIs(is_row((6, ((0, 5),)), (5, 3, 1, 0, 2, 4)), False)
        self.assertIs(is_row((6, ((5, 0),)), (5, 3, 1, 0, 2, 4)), True)

    def test_no_rows(self):
        for thing in NO_ROWS:
            self.assertIs(is_row((3, ()), thing), False, thing)

    def test_anything(self):
        for thing in ANYTHING:
            for order in [(2, ()), chain(5), (6, ())]:
                self.assertIs(is_row(order, thing), False, thing)
            self.assertIs(is_row((1, ()), thing), type(thing) is tuple and repr(thing) == "(0,)", thing)
            self.assertIs(is_row((2, ()), (thing, 0)), type(thing) is int and thing == 1, thing)
            self.assertIs(is_row((2, ()), (1, thing)), type(thing) is int and thing == 0, thing)

    def test_no_order_ahead_of_all(self):
        for order in NO_ORDERS:
            has_refusal(self, NoOrder, is_row, order, (0,))
            has_refusal(self, NoOrder, is_row, order, None)

    def test_nothing_is_changed(self):
        for thing in [[2, 1, 0], ([2], [1], [0]), {2: [1]}]:
            before = copy.deepcopy(thing)
            is_row((3, ()), thing)
            self.assertEqual(thing, before)


class AllRows(unittest.TestCase):
    def test_some(self):
        self.assertEqual(all_rows((1, ())), [(0,)])
        self.assertEqual(all_rows((2, ())), [(0, 1), (1, 0)])
        self.assertEqual(all_rows(ALL_BUT_ONE), [(0, 1, 2), (0, 2, 1)])
        self.assertEqual(all_rows((3, ((2, 0),))), [(1, 2, 0), (2, 0, 1), (2, 1, 0)])

    def test_all_by_the_words(self):
        for order in ORDERS:
            self.assertEqual(all_rows(order), rows_by_words(order), order)
            self.assertEqual(rows_many(order), len(rows_by_words(order)), order)

    def test_each_is_a_row(self):
        for order in LARGER:
            for row in all_rows(order):
                self.assertIs(is_row(order, row), True)

    def test_things_all_loose_and_all_in_one_row(self):
        self.assertEqual([rows_many((many, ())) for many in range(1, 7)], [1, 2, 6, 24, 120, 720])
        self.assertEqual([rows_many(chain(many)) for many in range(1, 7)], [1] * 6)
        self.assertEqual(all_rows(turned(chain(6))), [(5, 4, 3, 2, 1, 0)])

    def test_turned_about_the_rows_from_behind(self):
        for order in ORDERS:
            self.assertEqual(all_rows(turned(order)), sorted(row[::-1] for row in all_rows(order)))

    def test_no_order(self):
        for order in NO_ORDERS:
            has_refusal(self, NoOrder, all_rows, order)
            has_refusal(self, NoOrder, rows_many, order)

    def test_lists_are_the_askers_own(self):
        for order in [(1, ()), (3, ()), ALL_BUT_ONE, (6, ())]:
            is_fresh_list(self, all_rows, order)
            told = all_rows(order)
            told.clear()
            self.assertEqual(rows_many(order), len(rows_by_words(order)))


class Spans(unittest.TestCase):
    def test_some(self):
        self.assertEqual(span_of(ALL_BUT_ONE, (0, 2, 1)), 1)
        self.assertEqual(span_of((3, ((2, 0),)), (1, 2, 0)), 2)
        self.assertEqual(span_of((3, ((2, 0),)), (2, 1, 0)), 1)
        self.assertEqual(span_of((6, ()), (5, 4, 3, 2, 1, 0)), 5)

    def test_some_farthest(self):
        self.assertEqual(farthest(ALL_BUT_ONE, (0, 2, 1)), (1, 2))
        self.assertEqual(farthest((3, ((2, 0),)), (1, 2, 0)), (0, 1))
        self.assertEqual(farthest((6, ()), (5, 4, 3, 2, 1, 0)), (0, 5))

    def test_the_first_of_several_equally_far(self):
        self.assertEqual(farthest((3, ((2, 0),)), (2, 1, 0)), (0, 1))
        self.assertEqual(farthest((4, ((0, 2), (0, 3), (1, 2), (1, 3))), (1, 0, 3, 2)), (0, 1))
        self.assertEqual(farthest((4, ((2, 0), (2, 1), (3, 0), (3, 1))), (2, 3, 1, 0)), (0, 1))
        self.assertEqual(farthest((4, ((0, 1), (2, 3))), (0, 2, 1, 3)), (0, 3))
        self.assertEqual(farthest((4, ((0, 1), (2, 3))), (0, 2, 3, 1)), (0, 3))
        self.assertEqual(farthest((4, ((0, 3), (1, 2))), (1, 0, 2, 3)), (1, 3))

    def test_none_are_loose(self):
        for many in range(1, 7):
            row = tuple(range(many))
            self.assertEqual(span_of(chain(many), row), 0)
            self.assertIs(farthest(chain(many), row), None)
            self.assertEqual(span_of(turned(chain(many)), row[::-1]), 0)
            self.assertIs(farthest(turned(chain(many)), row[::-1]), None)

    def test_all_by_the_words(self):
        for order in ORDERS:
            for row in rows_by_words(order):
                span = span_by_words(order, row)
                self.assertEqual(span_of(order, row), span)
                so_far = [
                    (a, b) for a, b in loose_by_words(order) if abs(row.index(a) - row.index(b)) == span
                ]
                self.assertEqual(farthest(order, row), so_far[0] if so_far else None)

    def test_no_row(self):
        for told in (span_of, farthest):
            for row in NO_ROWS:
                has_refusal(self, NoRow, told, (3, ()), row)
            has_refusal(self, NoRow, told, ALL_BUT_ONE, (1, 0, 2))
            has_refusal(self, NoRow, told, ALL_BUT_ONE, (1, 2, 0))
            has_refusal(self, NoRow, told, chain(6), (1, 0, 2, 3, 4, 5))
            has_refusal(self, NoRow, told, (1, ()), (False,))
            has_refusal(self, NoRow, told, (1, ()), [0])

    def test_no_order_ahead_of_no_row(self):
        for told in (span_of, farthest):
            for order in NO_ORDERS:
                has_refusal(self, NoOrder, told, order, (0,))
                has_refusal(self, NoOrder, told, order, None)


if __name__ == "__main__":
    unittest.main()
