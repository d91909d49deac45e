"""Promises [11], [12], [13], and [2], [3] where they bear on them."""

import copy
import itertools
import unittest

from nearorders.errors import NoNumber, NoOrder, NoPairs, NoThing, Round
from nearorders.orders import ahead_of, behind, is_order, loose_from, loose_pairs, order_of, turned
from tests.helper import (
    ANYTHING, LARGER, NO_ORDERS, ORDERS, SMALL, WHATEVER, chain, follows_through, has_refusal,
    is_fresh_list, loose_by_words, no_numbers, relations,
)

OF_A_THING = [ahead_of, behind, loose_from]
OF_AN_ORDER = [loose_pairs, turned]


class IsOrder(unittest.TestCase):
    def test_all_relations_of_few_things(self):
        for many in (1, 2, 3, 4):
            for pairs in relations(many):
                self.assertIs(is_order((many, pairs)), follows_through(set(pairs)), (many, pairs))

    def test_how_many_orders_there_are(self):
        told = [sum(is_order((many, pairs)) for pairs in relations(many)) for many in (1, 2, 3, 4)]
        self.assertEqual(told, [1, 3, 19, 219])

    def test_larger_orders(self):
        for order in LARGER:
            self.assertIs(is_order(order), True, order)

    def test_many_from_one_to_six(self):
        self.assertEqual([is_order((many, ())) for many in range(-1, 9)], [False] * 2 + [True] * 6 + [False] * 2)

    def test_pairs_of_all_things_in_one_row(self):
        for many in range(1, 7):
            pairs = chain(many)[1]
            self.assertIs(is_order((many, pairs)), True)
            for lacking in pairs:
                fewer = tuple(pair for pair in pairs if pair != lacking)
                # Without a pair of neighbours it is still an order; any other pair follows from some.
                self.assertIs(is_order((many, fewer)), lacking[1] - lacking[0] == 1, (many, lacking))

    def test_pairs_that_do_not_rise_or_stand_twice(self):
        for order in SMALL:
            many, pairs = order
            if len(pairs) > 1:
                self.assertIs(is_order((many, pairs[::-1])), False)
                self.assertIs(is_order((many, pairs[1:] + pairs[:1])), False)
            for at, pair in enumerate(pairs):
                self.assertIs(is_order((many, pairs[:at] + (pair,) + pairs[at:])), False)

    def test_no_orders(self):
        for thing in NO_ORDERS:
            self.assertIs(is_order(thing), False, thing)

    def test_anything_in_each_place(self):
        for thing in ANYTHING:
            self.assertIs(is_order(thing), False, thing)
            self.assertIs(is_order((thing, ())), type(thing) is int and 1 <= thing <= 6, thing)
            self.assertIs(is_order((3, thing)), type(thing) is tuple and thing == (), thing)
            self.assertIs(is_order((3, (thing,))), False, thing)
            self.assertIs(is_order((3, ((0, 1), thing))), False, thing)
            self.assertIs(is_order((3, ((0, thing),))), type(thing) is int and thing in (1, 2), thing)
            self.assertIs(is_order((3, ((thing, 0),))), type(thing) is int and thing in (1, 2), thing)

    def test_nothing_is_changed(self):
        for thing in [(2, [(0, 1), (0, 1)]), [2, ((0, 1),)], (3, ([2, 1], [0, 1])), {2: [(1, 0)]}]:
            before = copy.deepcopy(thing)
            is_order(thing)
            self.assertEqual(thing, before)


class OrderOf(unittest.TestCase):
    def test_what_follows_is_added(self):
        self.assertEqual(order_of(3, [(0, 1), (1, 2)]), (3, ((0, 1), (0, 2), (1, 2))))
        self.assertEqual(order_of(3, [(1, 2), (0, 1)]), (3, ((0, 1), (0, 2), (1, 2))))
        self.assertEqual(order_of(3, [(2, 1), (1, 0)]), (3, ((1, 0), (2, 0), (2, 1))))
        self.assertEqual(order_of(4, [(3, 0), (0, 2), (2, 1)]), (4, ((0, 1), (0, 2), (2, 1), (3, 0), (3, 1), (3, 2))))

    def test_nothing_else_is_added(self):
        self.assertEqual(order_of(1, []), (1, ()))
        self.assertEqual(order_of(6, []), (6, ()))
        self.assertEqual(order_of(2, [(1, 0)]), (2, ((1, 0),)))
        self.assertEqual(order_of(4, [(2, 3), (0, 1)]), (4, ((0, 1), (2, 3))))
        self.assertEqual(order_of(6, [(5, 0), (0, 1)]), (6, ((0, 1), (5, 0), (5, 1))))

    def test_pairs_twice(self):
        self.assertEqual(order_of(2, [(0, 1), (0, 1)]), (2, ((0, 1),)))
        self.assertEqual(order_of(3, [(1, 2), (0, 1), (1, 2), (0, 1), (0, 2)]), (3, ((0, 1), (0, 2), (1, 2))))

    def test_the_least_order_of_any_few_pairs(self):
        every = list(itertools.product(range(4), repeat=2))
        orders = [set(pairs) for many, pairs in SMALL if many == 4]
        for size in (0, 1, 2, 3):
            for pairs in itertools.combinations(every, size):
                holding = [order for order in orders if order >= set(pairs)]
                if not holding:
                    has_refusal(self, Round, order_of, 4, list(pairs))
                    continue
                least = min(holding, key=len)
                self.assertEqual(order_of(4, list(pairs[::-1])), (4, tuple(sorted(least))))

    def test_long_ways_in_any_order_of_the_pairs(self):
        steps = [(3, 1), (1, 5), (5, 0), (0, 4), (4, 2)]
        way = [3, 1, 5, 0, 4, 2]
        all_in_one_row = (6, tuple(sorted(itertools.combinations(way, 2))))
        for pairs in itertools.permutations(steps):
            self.assertEqual(order_of(6, list(pairs)), all_in_one_row)
            has_refusal(self, Round, order_of, 6, list(pairs) + [(2, 3)])

    def test_an_order_stays_as_it_is(self):
        for order in ORDERS:
            self.assertEqual(order_of(order[0], list(order[1])), order)
            self.assertEqual(order_of(order[0], list(order[1][::-1]) * 2), order)

    def test_it_is_built_of_tuples_and_ints(self):
        told = order_of(3, [(0, 1), (1, 2)])
        self.assertIs(is_order(told), True)

    def test_round(self):
        for pairs in [[(0, 0)], [(1, 1), (0, 1)], [(0, 1), (1, 0)], [(0, 1), (1, 2), (2, 0)], [(0, 1), (2, 2)]]:
            has_refusal(self, Round, order_of, 3, pairs)
        has_refusal(self, Round, order_of, 1, [(0, 0)])
        has_refusal(self, Round, order_of, 6, [(5, 5)])

    def test_no_number(self):
        for many in no_numbers(1, 6):
            has_refusal(self, NoNumber, order_of, many, [])
            has_refusal(self, NoNumber, order_of, many, [(0, 0)])
            has_refusal(self, NoNumber, order_of, many, None)

    def test_no_list(self):
        for pairs in WHATEVER:
            if pairs not in ([], [(0, 1)]):
                has_refusal(self, NoPairs, order_of, 3, pairs)
        for pairs in [(), ((0, 1),), {(0, 1): True}, {(0, 1)}, "", "01", None]:
            has_refusal(self, NoPairs, order_of, 3, pairs)

    def test_no_pairs_in_the_list(self):
        for pair in WHATEVER:
            has_refusal(self, NoPairs, order_of, 3, [pair])
            has_refusal(self, NoPairs, order_of, 3, [(0, 1), pair])
        for pair in [(0,), (0, 1, 2), (0, 3), (3, 0), (-1, 0), (0, -1), [0, 1], (0, True), (False, 1), (0, "1"),
                     ((0, 1), (1, 2)), (0, [1]), (0, (1,)), (None, 0), (0, 1.0), (10 ** 29, 0)]:
            has_refusal(self, NoPairs, order_of, 3, [pair])
            has_refusal(self, NoPairs, order_of, 3, [(0, 1), pair, (1, 2)])

    def test_no_pairs_of_the_whole_list_is_ahead_of_round(self):
        for pair in [None, (0, 3), [0, 1], (0, True), ()]:
            has_refusal(self, NoPairs, order_of, 3, [(0, 0), pair])
            has_refusal(self, NoPairs, order_of, 3, [(0, 1), (1, 0), pair])
            has_refusal(self, NoPairs, order_of, 3, [pair, (1, 1)])

    def test_the_list_stays_as_it_was_and_is_not_held(self):
        pairs = [(1, 2), (0, 1), (1, 2)]
        told = order_of(3, pairs)
        self.assertEqual(pairs, [(1, 2), (0, 1), (1, 2)])
        pairs.append((2, 0))
        pairs.reverse()
        pairs.clear()
        self.assertEqual(told, (3, ((0, 1), (0, 2), (1, 2))))
        self.assertEqual(order_of(3, [(1, 2), (0, 1)]), told)

    def test_a_refused_list_stays_as_it_was(self):
        for refusal, pairs in [(Round, [(1, 0), (0, 1)]), (NoPairs, [(1, 0), [0, 1], (1, 0)])]:
            before = copy.deepcopy(pairs)
            has_refusal(self, refusal, order_of, 2, pairs)
            self.assertEqual(pairs, before)


class OfAThing(unittest.TestCase):
    def test_some(self):
        order = (4, ((0, 1), (0, 3), (2, 3)))
        self.assertEqual([ahead_of(order, thing) for thing in range(4)], [[], [0], [], [0, 2]])
        self.assertEqual([behind(order, thing) for thing in range(4)], [[1, 3], [], [3], []])
        self.assertEqual([loose_from(order, thing) for thing in range(4)], [[2], [2, 3], [0, 1], [1]])

    def test_one_thing_alone(self):
        self.assertEqual([told((1, ()), 0) for told in OF_A_THING], [[], [], []])

    def test_all_by_the_words(self):
        for order in ORDERS:
            many, pairs = order
            for thing in range(many):
                self.assertEqual(ahead_of(order, thing), [a for a in range(many) if (a, thing) in pairs])
                self.assertEqual(behind(order, thing), [b for b in range(many) if (thing, b) in pairs])
                told = ahead_of(order, thing) + behind(order, thing) + loose_from(order, thing) + [thing]
                self.assertEqual(sorted(told), list(range(many)))
                self.assertEqual(loose_from(order, thing), sorted(loose_from(order, thing)))

    def test_no_thing(self):
        for told in OF_A_THING:
            for order in [(1, ()), (3, ((0, 1), (0, 2), (1, 2))), (6, ())]:
                for thing in no_numbers(0, order[0] - 1):
                    has_refusal(self, NoThing, told, order, thing)

    def test_no_order_ahead_of_no_thing(self):
        for told in OF_A_THING:
            for order in NO_ORDERS:
                has_refusal(self, NoOrder, told, order, 0)
                has_refusal(self, NoOrder, told, order, None)

    def test_lists_are_the_askers_own(self):
        for told in OF_A_THING:
            for order in [(1, ()), (3, ()), (4, ((0, 1), (0, 3), (2, 3)))]:
                for thing in range(order[0]):
                    is_fresh_list(self, told, order, thing)


class OfAnOrder(unittest.TestCase):
    def test_some_loose_pairs(self):
        self.assertEqual(loose_pairs((4, ((0, 1), (0, 3), (2, 3)))), [(0, 2), (1, 2), (1, 3)])
        self.assertEqual(loose_pairs((3, ())), [(0, 1), (0, 2), (1, 2)])
        self.assertEqual(loose_pairs((3, ((2, 0),))), [(0, 1), (1, 2)])

    def test_none_are_loose(self):
        self.assertEqual(loose_pairs((1, ())), [])
        self.assertEqual(loose_pairs((2, ((1, 0),))), [])
        self.assertEqual(loose_pairs(chain(6)), [])

    def test_loose_pairs_by_the_words(self):
        for order in ORDERS:
            self.assertEqual(loose_pairs(order), loose_by_words(order))

    def test_loose_pairs_and_loose_from_agree(self):
        for order in ORDERS:
            told = [(a, b) for a in range(order[0]) for b in loose_from(order, a) if a < b]
            self.assertEqual(told, loose_pairs(order))

    def test_some_turned(self):
        self.assertEqual(turned((1, ())), (1, ()))
        self.assertEqual(turned((3, ((0, 1), (0, 2), (1, 2)))), (3, ((1, 0), (2, 0), (2, 1))))
        self.assertEqual(turned((4, ((0, 3), (1, 2)))), (4, ((2, 1), (3, 0))))

    def test_turned_by_the_words(self):
        for order in ORDERS:
            told = turned(order)
            self.assertIs(is_order(told), True)
            self.assertEqual(told, (order[0], tuple(sorted((b, a) for a, b in order[1]))))
            self.assertEqual(turned(told), order)

    def test_no_order(self):
        for told in OF_AN_ORDER:
            for order in NO_ORDERS:
                has_refusal(self, NoOrder, told, order)

    def test_lists_are_the_askers_own(self):
        for order in [(1, ()), (3, ()), (4, ((0, 1), (0, 3), (2, 3)))]:
            is_fresh_list(self, loose_pairs, order)


if __name__ == "__main__":
    unittest.main()
