"""Promises [91], [92], [93], and [2], [3] where they bear on them."""

import itertools
import unittest

from nearorders.counts import all_orders, counted, kinds_many, kinds_of, least_alike
from nearorders.errors import NoNumber, NoOrder
from nearorders.orders import is_order, turned
from nearorders.seatings import least_reach
from nearorders.spans import least_span
from tests.helper import (
    LARGER, NO_ORDERS, ORDERS, SMALL, chain, follows_through, has_refusal, is_fresh_list, least_reach_by_words,
    least_span_by_words, no_numbers, relations, renumbered,
)

OF_MANY = [all_orders, counted, kinds_of, kinds_many]


def small_orders(many):
    """All orders of so many things, of all sets of pairs gone through."""
    return [(many, pairs) for pairs in relations(many) if follows_through(set(pairs))]


def alike_by_words(order):
    """All orders that are alike with an order."""
    return {renumbered(order, numbers) for numbers in itertools.permutations(range(order[0]))}


class AllOrders(unittest.TestCase):
    def test_the_fewest(self):
        self.assertEqual(all_orders(1), [(1, ())])
        self.assertEqual(all_orders(2), [(2, ()), (2, ((0, 1),)), (2, ((1, 0),))])

    def test_of_three_things(self):
        told = all_orders(3)
        self.assertEqual(told[:6], [
            (3, ()), (3, ((0, 1),)), (3, ((0, 1), (0, 2))), (3, ((0, 1), (0, 2), (1, 2))),
            (3, ((0, 1), (0, 2), (2, 1))), (3, ((0, 1), (2, 0), (2, 1))),
        ])
        self.assertEqual(told[-1], (3, ((2, 1),)))

    def test_against_all_sets_of_pairs(self):
        for many in (1, 2, 3, 4):
            self.assertEqual(all_orders(many), sorted(small_orders(many)))

    def test_how_many(self):
        self.assertEqual([len(all_orders(many)) for many in (1, 2, 3, 4)], [1, 3, 19, 219])

    def test_each_is_an_order_and_the_list_rises(self):
        for many in (1, 2, 3, 4):
            told = all_orders(many)
            self.assertTrue(all(is_order(order) and order[0] == many for order in told))
            self.assertTrue(all(one < other for one, other in zip(told, told[1:])))


class Counted(unittest.TestCase):
    def test_each(self):
        self.assertEqual(counted(1), [(0, 0, 1)])
        self.assertEqual(counted(2), [(0, 0, 2), (1, 0, 1)])
        self.assertEqual(counted(3), [(0, 0, 6), (1, 0, 6), (1, 1, 6), (2, 0, 1)])
        self.assertEqual(
            counted(4), [(0, 0, 24), (1, 0, 42), (1, 1, 72), (2, 0, 8), (2, 1, 72), (3, 0, 1)]
        )

    def test_all_by_the_words(self):
        for many in (1, 2, 3, 4):
            found = [(least_span_by_words(order), least_reach_by_words(order)) for order in small_orders(many)]
            self.assertEqual(counted(many), sorted((*both, found.count(both)) for both in set(found)))

    def test_they_come_to_all_orders(self):
        for many in (1, 2, 3, 4):
            told = counted(many)
            orders = all_orders(many)
            self.assertEqual(sum(many_orders for span, reach, many_orders in told), len(orders))
            for span, reach, many_orders in told:
                having = [order for order in orders if (least_span(order), least_reach(order)) == (span, reach)]
                self.assertEqual(len(having), many_orders)

    def test_kinds_of_values(self):
        for many in (1, 2, 3, 4):
            for told in counted(many):
                self.assertIs(type(told), tuple)
                self.assertEqual([type(part) for part in told], [int, int, int])


class LeastAlike(unittest.TestCase):
    def test_some(self):
        self.assertEqual(least_alike((1, ())), (1, ()))
        self.assertEqual(least_alike((2, ((1, 0),))), (2, ((0, 1),)))
        self.assertEqual(least_alike((3, ((2, 1),))), (3, ((0, 1),)))
        self.assertEqual(least_alike((3, ((1, 0), (2, 0)))), (3, ((0, 1), (2, 1))))
        self.assertEqual(least_alike((4, ((0, 2), (1, 3)))), (4, ((0, 1), (2, 3))))
        # As tuples compare, (0, 1), (0, 2), (1, 2) is less than (0, 1), (0, 2), (3, ...).
        self.assertEqual(least_alike((4, ((3, 2), (3, 1), (2, 1))[::-1])), (4, ((0, 1), (0, 2), (1, 2))))

    def test_all_things_loose_and_all_in_one_row(self):
        for many in range(1, 7):
            self.assertEqual(least_alike((many, ())), (many, ()))
            self.assertEqual(least_alike(turned(chain(many))), chain(many))

    def test_all_by_the_words(self):
        for order in ORDERS:
            self.assertEqual(least_alike(order), min(alike_by_words(order)), order)

    def test_the_same_under_each_other_numbering(self):
        for order in SMALL:
            first = least_alike(order)
            for numbers in itertools.permutations(range(order[0])):
                self.assertEqual(least_alike(renumbered(order, numbers)), first)
        for order in LARGER:
            first = least_alike(order)
            for numbers in list(itertools.permutations(range(order[0])))[::31]:
                self.assertEqual(least_alike(renumbered(order, numbers)), first)

    def test_it_is_alike_and_its_own_first(self):
        for order in ORDERS:
            first = least_alike(order)
            self.assertIs(is_order(first), True)
            self.assertEqual(least_alike(first), first)
            self.assertLessEqual(first, order)
            self.assertEqual((least_span(first), least_reach(first)), (least_span(order), least_reach(order)))

    def test_no_order(self):
        for order in NO_ORDERS:
            has_refusal(self, NoOrder, least_alike, order)


class Kinds(unittest.TestCase):
    def test_the_fewest(self):
        self.assertEqual(kinds_of(1), [(1, ())])
        self.assertEqual(kinds_many(1), [1])
        self.assertEqual(kinds_of(2), [(2, ()), (2, ((0, 1),))])
        self.assertEqual(kinds_many(2), [1, 2])
        self.assertEqual(kinds_of(3), [
            (3, ()), (3, ((0, 1),)), (3, ((0, 1), (0, 2))), (3, ((0, 1), (0, 2), (1, 2))), (3, ((0, 1), (2, 1))),
        ])
        self.assertEqual(kinds_many(3), [1, 6, 3, 6, 3])

    def test_all_by_the_words(self):
        for many in (1, 2, 3, 4):
            firsts = sorted({min(alike_by_words(order)) for order in small_orders(many)})
            self.assertEqual(kinds_of(many), firsts)
            self.assertEqual(kinds_many(many), [len(alike_by_words(first)) for first in firsts])

    def test_they_come_to_all_orders(self):
        self.assertEqual([len(kinds_of(many)) for many in (1, 2, 3, 4)], [1, 2, 5, 16])
        for many in (1, 2, 3, 4):
            self.assertEqual(sum(kinds_many(many)), len(all_orders(many)))
            together = set().union(*[alike_by_words(first) for first in kinds_of(many)])
            self.assertEqual(sorted(together), all_orders(many))

    def test_the_list_rises(self):
        for many in (1, 2, 3, 4):
            told = kinds_of(many)
            self.assertTrue(all(one < other for one, other in zip(told, told[1:])))
            self.assertEqual(len(told), len(kinds_many(many)))


class OfMany(unittest.TestCase):
    def test_no_number(self):
        for told in OF_MANY:
            for many in no_numbers(1, 4) + [0, 5, 6, -4]:
                has_refusal(self, NoNumber, told, many)

    def test_lists_are_the_askers_own(self):
        for told in OF_MANY:
            for many in (1, 2, 3, 4):
                is_fresh_list(self, told, many)

    def test_a_changed_list_changes_no_other_answer(self):
        before = [told(3) for told in OF_MANY]
        for told in OF_MANY:
            told(3).clear()
            self.assertEqual([each(3) for each in OF_MANY], before)


if __name__ == "__main__":
    unittest.main()
