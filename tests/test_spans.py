"""Promises [31] and [32], [4] of the least span, and [2], [3] where they bear on them."""

import unittest

from nearorders.errors import NoOrder
from nearorders.orders import turned
from nearorders.rows import is_row, rows_many, span_of
from nearorders.spans import best_rows, first_best, least_span, spans
from tests.helper import NO_ORDERS, ORDERS, chain, has_refusal, is_fresh_list, rows_by_words, span_by_words

TWO_CHAINS = (4, ((0, 1), (2, 3)))
LONG_BY_ONE = (4, ((0, 1), (0, 2), (1, 2)))


class LeastSpan(unittest.TestCase):
    def test_some(self):
        self.assertEqual(least_span((2, ())), 1)
        self.assertEqual(least_span(TWO_CHAINS), 2)
        self.assertEqual(least_span(LONG_BY_ONE), 2)
        self.assertEqual(least_span((3, ((2, 0),))), 1)

    def test_things_all_loose(self):
        self.assertEqual([least_span((many, ())) for many in range(1, 7)], [0, 1, 2, 3, 4, 5])

    def test_none_are_loose(self):
        for many in range(1, 7):
            for order in (chain(many), turned(chain(many))):
                self.assertEqual(least_span(order), 0)
                self.assertEqual(spans(order), [1])
                self.assertEqual(len(best_rows(order)), 1)

    def test_it_is_that_of_a_row_and_no_row_has_a_lesser_one(self):
        for order in ORDERS:
            every = [span_by_words(order, row) for row in rows_by_words(order)]
            self.assertIn(least_span(order), every)
            self.assertTrue(all(span >= least_span(order) for span in every))

    def test_turned_about_it_is_the_same(self):
        for order in ORDERS:
            self.assertEqual(least_span(turned(order)), least_span(order))
            self.assertEqual(spans(turned(order)), spans(order))


class Spans(unittest.TestCase):
    def test_some(self):
        self.assertEqual(spans((1, ())), [1])
        self.assertEqual(spans((2, ())), [0, 2])
        self.assertEqual(spans((3, ((2, 0),))), [0, 1, 2])
        self.assertEqual(spans(TWO_CHAINS), [0, 0, 2, 4])
        self.assertEqual(spans((6, ())), [0, 0, 0, 0, 0, 720])

    def test_all_by_the_words(self):
        for order in ORDERS:
            every = [span_by_words(order, row) for row in rows_by_words(order)]
            self.assertEqual(spans(order), [every.count(k) for k in range(max(every) + 1)])

    def test_all_rows_are_counted_up_to_the_greatest_span(self):
        for order in ORDERS:
            told = spans(order)
            self.assertEqual(sum(told), rows_many(order))
            self.assertGreater(told[-1], 0)
            self.assertEqual(next(k for k, rows in enumerate(told) if rows), least_span(order))


class BestRows(unittest.TestCase):
    def test_some(self):
        self.assertEqual(best_rows((1, ())), [(0,)])
        self.assertEqual(best_rows((2, ())), [(0, 1), (1, 0)])
        self.assertEqual(best_rows((3, ((2, 0),))), [(2, 1, 0)])
        self.assertEqual(best_rows(TWO_CHAINS), [(0, 2, 3, 1), (2, 0, 1, 3)])
        self.assertEqual(best_rows(LONG_BY_ONE), [(0, 1, 3, 2), (0, 3, 1, 2)])

    def test_some_first(self):
        self.assertEqual(first_best((1, ())), (0,))
        self.assertEqual(first_best((3, ((2, 0),))), (2, 1, 0))
        self.assertEqual(first_best(TWO_CHAINS), (0, 2, 3, 1))
        self.assertEqual(first_best((6, ())), (0, 1, 2, 3, 4, 5))

    def test_all_rows_of_the_least_span_and_no_others(self):
        for order in ORDERS:
            rows = rows_by_words(order)
            every = [span_by_words(order, row) for row in rows]
            best = [row for row, span in zip(rows, every) if span == min(every)]
            self.assertEqual(best_rows(order), best)
            self.assertEqual(first_best(order), best[0])

    def test_each_is_a_row_of_that_span(self):
        for order in ORDERS:
            for row in best_rows(order):
                self.assertIs(is_row(order, row), True)
                self.assertEqual(span_of(order, row), least_span(order))
            self.assertEqual(len(best_rows(order)), spans(order)[least_span(order)])

    def test_turned_about_the_best_ones_from_behind(self):
        for order in ORDERS:
            self.assertEqual(best_rows(turned(order)), sorted(row[::-1] for row in best_rows(order)))


class Refusals(unittest.TestCase):
    def test_no_order(self):
        for told in (least_span, spans, best_rows, first_best):
            for order in NO_ORDERS:
                has_refusal(self, NoOrder, told, order)

    def test_lists_are_the_askers_own(self):
        for order in [(1, ()), chain(3), TWO_CHAINS, (5, ())]:
            is_fresh_list(self, spans, order)
            is_fresh_list(self, best_rows, order)

    def test_a_changed_list_changes_no_other_answer(self):
        for order in [(1, ()), TWO_CHAINS, (5, ())]:
            least, first, many = least_span(order), first_best(order), rows_many(order)
            best_rows(order).clear()
            spans(order).clear()
            self.assertEqual((least_span(order), first_best(order), rows_many(order)), (least, first, many))


if __name__ == "__main__":
    unittest.main()
