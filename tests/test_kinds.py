"""Promises [71], [72], [73], [74], and [2], [3] where they bear on them."""

import itertools
import unittest

from nearorders.errors import NoNumber, NoOrder, NoSizes, TooMany
from nearorders.kinds import chains_order, chains_reach, crown, fence, levels_or_bar, levels_order, levels_span
from nearorders.orders import is_order
from nearorders.seatings import least_reach
from nearorders.spans import least_span
from tests.helper import (
    NO_ORDERS, ORDERS, WHATEVER, chain, has_refusal, least_reach_by_words, loose_by_words, no_numbers, renumbered,
)

OF_SIZES = [levels_order, chains_order, levels_span, chains_reach]
ORDERS_OF_SIZES = [levels_order, chains_order]

# All sizes of one to six things together.
SIZES = [
    list(sizes) for length in range(1, 7) for sizes in itertools.product(range(1, 7), repeat=length) if sum(sizes) <= 6
]

NO_SIZE = [thing for thing in no_numbers(1, 1) if type(thing) is not int or thing < 1]

NO_SIZES = [
    thing for thing in WHATEVER if not (type(thing) is list and thing and all(type(part) is int for part in thing))
] + [
    [], [0], [-1], [1, 0], [0, 1], [1, 1, 0], [2, -1], [1] * 7, [1, 1, 1, 1, 1, 1, 0], [10 ** 29] * 7, [0] * 6, [-5, 6],
    (1,), (1, 2), (), "1", "12", {1: 1}, {1}, 1, range(1, 3), None, True, [True], [1, True], [False], [1, None], ["1"],
    [1, "2"], [[1]], [(1,)], [1, [2]], [1, {}], [1.0], [1, 2.0], [[1, 2]], ([1, 2],), [[], []], [-(10 ** 29)], b"12",
]


def group_by_words(sizes, thing):
    """The place of the size to which a thing belongs."""
    return next(at for at in range(len(sizes)) if thing < sum(sizes[:at + 1]))


def levels_by_words(order):
    """The levels of an order, the first ones ahead of all others, and so on; None where it has none."""
    many, pairs = order
    left, levels = list(range(many)), []
    while left:
        level = [b for b in left if not any((a, b) in pairs for a in left)]
        left = [thing for thing in left if thing not in level]
        if not all((a, b) in pairs for a in level for b in left):
            return None
        levels.append(tuple(level))
    return levels


class OrdersOfSizes(unittest.TestCase):
    def test_some_levels(self):
        self.assertEqual(levels_order([1]), (1, ()))
        self.assertEqual(levels_order([6]), (6, ()))
        self.assertEqual(levels_order([1, 1]), (2, ((0, 1),)))
        self.assertEqual(levels_order([1, 2]), (3, ((0, 1), (0, 2))))
        self.assertEqual(levels_order([2, 1, 1]), (4, ((0, 2), (0, 3), (1, 2), (1, 3), (2, 3))))
        self.assertEqual(levels_order([1] * 6), chain(6))

    def test_some_chains(self):
        self.assertEqual(chains_order([1]), (1, ()))
        self.assertEqual(chains_order([6]), chain(6))
        self.assertEqual(chains_order([1, 1]), (2, ()))
        self.assertEqual(chains_order([1, 2]), (3, ((1, 2),)))
        self.assertEqual(chains_order([3, 1, 2]), (6, ((0, 1), (0, 2), (1, 2), (4, 5))))
        self.assertEqual(chains_order([1] * 6), (6, ()))

    def test_all_by_the_words(self):
        for sizes in SIZES:
            many = sum(sizes)
            for told in (levels_order, chains_order):
                self.assertIs(is_order(told(sizes)), True, sizes)
                self.assertEqual(told(sizes)[0], many)
            for a, b in itertools.product(range(many), repeat=2):
                group_a, group_b = group_by_words(sizes, a), group_by_words(sizes, b)
                self.assertIs((a, b) in levels_order(sizes)[1], group_a < group_b)
                self.assertIs((a, b) in chains_order(sizes)[1], group_a == group_b and a < b)

    def test_six_and_seven_together(self):
        for sizes in [[6], [3, 3], [1, 2, 3], [1] * 6, [5, 1]]:
            for told in ORDERS_OF_SIZES:
                self.assertEqual(told(sizes)[0], 6)
        for sizes in [
            [7], [6, 1], [1, 6], [3, 4], [1, 2, 4], [2, 1, 1, 1, 1, 1], [6] * 6, [10 ** 29], [1, 10 ** 30 - 1],
        ]:
            for told in ORDERS_OF_SIZES:
                has_refusal(self, TooMany, told, sizes)

    def test_no_sizes_ahead_of_too_many(self):
        for sizes in [[7, 0], [0, 7], [6, 1, -1], [7, True], [10 ** 29, None], [7, "1"], (7,), [7] * 7, [10, -5]]:
            for told in ORDERS_OF_SIZES:
                has_refusal(self, NoSizes, told, sizes)


class ByRule(unittest.TestCase):
    def test_some_spans_of_levels(self):
        self.assertEqual(levels_span([1]), 0)
        self.assertEqual(levels_span([1, 1, 1]), 0)
        self.assertEqual(levels_span([1, 4, 1]), 3)
        self.assertEqual(levels_span([7, 8, 9, 1, 2, 3]), 8)

    def test_some_reaches_of_chains(self):
        self.assertEqual([chains_reach([size]) for size in (1, 2, 6, 100)], [0, 0, 0, 0])
        self.assertEqual(chains_reach([1, 1]), 0)
        self.assertEqual(chains_reach([1, 2]), 1)
        self.assertEqual(chains_reach([2, 2]), 1)
        self.assertEqual(chains_reach([3, 2]), 2)
        self.assertEqual(chains_reach([3, 3]), 2)
        self.assertEqual(chains_reach([1, 5]), 2)
        self.assertEqual(chains_reach([2, 9, 1, 4, 3, 8]), 8)
        self.assertEqual(chains_reach([1, 1, 1, 1, 1, 1]), 0)
        self.assertEqual(chains_reach([5, 5, 5]), 4)

    def test_of_thirty_figures(self):
        great = 10 ** 30 - 1
        self.assertEqual(levels_span([great]), great - 1)
        self.assertEqual(levels_span([1, great, great - 1]), great - 1)
        self.assertEqual(chains_reach([great]), 0)
        self.assertEqual(chains_reach([great, great]), great - 1)
        self.assertEqual(chains_reach([10 ** 29, 1]), 5 * 10 ** 28)
        self.assertEqual(chains_reach([1, 10 ** 29 + 1, 2]), 5 * 10 ** 28 + 1)
        self.assertEqual(chains_reach([great - 1, 3, great]), great - 1)

    def test_against_the_orders_told(self):
        for sizes in SIZES:
            self.assertEqual(levels_span(sizes), least_span(levels_order(sizes)), sizes)
            self.assertEqual(chains_reach(sizes), least_reach(chains_order(sizes)), sizes)

    def test_more_than_six_together_is_no_refusal(self):
        self.assertEqual(levels_span([6, 6, 6, 6, 6, 6]), 5)
        self.assertEqual(chains_reach([6, 6, 6, 6, 6, 6]), 5)


class Sizes(unittest.TestCase):
    def test_one_and_six_sizes(self):
        for told in OF_SIZES:
            told([1])
            told([1] * 6)
            has_refusal(self, NoSizes, told, [])
            has_refusal(self, NoSizes, told, [1] * 7)

    def test_no_sizes(self):
        for told in OF_SIZES:
            for sizes in NO_SIZES:
                has_refusal(self, NoSizes, told, sizes)
            for size in NO_SIZE:
                has_refusal(self, NoSizes, told, [size])
                has_refusal(self, NoSizes, told, [1, size])
                has_refusal(self, NoSizes, told, [size, 1, 1])

    def test_the_list_stays_as_it_was_and_is_not_held(self):
        for told in OF_SIZES:
            sizes = [3, 1, 2]
            answer = told(sizes)
            self.assertEqual(sizes, [3, 1, 2])
            sizes.reverse()
            sizes.append(1)
            self.assertEqual(told([3, 1, 2]), answer)
            sizes.clear()
            self.assertEqual(told([3, 1, 2]), answer)

    def test_a_refused_list_stays_as_it_was(self):
        for refusal, sizes in [(TooMany, [3, 1, 9]), (NoSizes, [3, 0, 2])]:
            for told in ORDERS_OF_SIZES:
                has_refusal(self, refusal, told, sizes)


class LevelsOrBar(unittest.TestCase):
    def test_some_levels(self):
        self.assertEqual(levels_or_bar((1, ())), ("levels", [(0,)]))
        self.assertEqual(levels_or_bar((6, ())), ("levels", [(0, 1, 2, 3, 4, 5)]))
        self.assertEqual(levels_or_bar((3, ((2, 0), (2, 1)))), ("levels", [(2,), (0, 1)]))
        self.assertEqual(levels_or_bar((4, ((1, 0), (1, 2), (3, 0), (3, 2)))), ("levels", [(1, 3), (0, 2)]))
        self.assertEqual(levels_or_bar(chain(6)), ("levels", [(0,), (1,), (2,), (3,), (4,), (5,)]))

    def test_some_bars(self):
        self.assertEqual(levels_or_bar((3, ((0, 1),))), ("bar", (0, 2, 1)))
        self.assertEqual(levels_or_bar((3, ((2, 0),))), ("bar", (2, 1, 0)))

    def test_the_least_of_several_bars(self):
        # The lesser a first, then the lesser b, then the lesser c.
        self.assertEqual(levels_or_bar((4, ((0, 1), (2, 3)))), ("bar", (0, 2, 1)))
        self.assertEqual(levels_or_bar((4, ((1, 3), (2, 0)))), ("bar", (1, 0, 3)))
        self.assertEqual(levels_or_bar((4, ((0, 3),))), ("bar", (0, 1, 3)))
        self.assertEqual(levels_or_bar((4, ((0, 2), (3, 1), (3, 2)))), ("bar", (0, 1, 2)))
        self.assertEqual(levels_or_bar((4, ((0, 1), (0, 2), (1, 2)))), ("bar", (0, 3, 1)))
        self.assertEqual(levels_or_bar((5, ((0, 1), (0, 2)))), ("bar", (0, 3, 1)))

    def test_levels_of_all_sizes_under_other_numbers(self):
        for sizes in SIZES:
            order = levels_order(sizes)
            ends = [0] + list(itertools.accumulate(sizes))
            for numbers in list(itertools.permutations(range(order[0])))[::17]:
                levels = [tuple(sorted(numbers[low:high])) for low, high in zip(ends, ends[1:])]
                self.assertEqual(levels_or_bar(renumbered(order, numbers)), ("levels", levels))

    def test_all_by_the_words(self):
        for order in ORDERS:
            many, pairs = order
            loose = loose_by_words(order)
            bars = [
                (a, b, c) for a, b, c in itertools.permutations(range(many), 3)
                if (a, c) in pairs and tuple(sorted((a, b))) in loose and tuple(sorted((b, c))) in loose
            ]
            levels = levels_by_words(order)
            self.assertIs(levels is None, bool(bars))
            self.assertEqual(levels_or_bar(order), ("bar", min(bars)) if bars else ("levels", levels), order)

    def test_the_least_reach_is_0_just_where_there_are_levels(self):
        for order in ORDERS:
            self.assertIs(levels_or_bar(order)[0] == "levels", least_reach(order) == 0, order)
            self.assertIs(levels_or_bar(order)[0] == "levels", least_reach_by_words(order) == 0, order)

    def test_kinds_of_values(self):
        for order in ORDERS:
            told = levels_or_bar(order)
            self.assertIs(type(told), tuple)
            self.assertIs(type(told[1]), list if told[0] == "levels" else tuple)

    def test_the_list_is_the_askers_own(self):
        for order in [(1, ()), (3, ()), chain(4), levels_order([1, 3, 2])]:
            told = levels_or_bar(order)
            kept = list(told[1])
            self.assertIsNot(levels_or_bar(order)[1], told[1])
            told[1].append("changed")
            told[1].reverse()
            self.assertEqual(levels_or_bar(order), ("levels", kept))
            told[1].clear()
            self.assertEqual(levels_or_bar(order), ("levels", kept))

    def test_no_order(self):
        for order in NO_ORDERS:
            has_refusal(self, NoOrder, levels_or_bar, order)


class FencesAndCrowns(unittest.TestCase):
    def test_each_fence(self):
        self.assertEqual(fence(1), (1, ()))
        self.assertEqual(fence(2), (2, ((0, 1),)))
        self.assertEqual(fence(3), (3, ((0, 1), (2, 1))))
        self.assertEqual(fence(4), (4, ((0, 1), (2, 1), (2, 3))))
        self.assertEqual(fence(5), (5, ((0, 1), (2, 1), (2, 3), (4, 3))))
        self.assertEqual(fence(6), (6, ((0, 1), (2, 1), (2, 3), (4, 3), (4, 5))))

    def test_each_crown(self):
        self.assertEqual(crown(2), (4, ((0, 3), (1, 2))))
        self.assertEqual(crown(3), (6, ((0, 4), (0, 5), (1, 3), (1, 5), (2, 3), (2, 4))))

    def test_they_are_orders(self):
        for order in [fence(many) for many in range(1, 7)] + [crown(2), crown(3)]:
            self.assertIs(is_order(order), True)

    def test_no_number(self):
        for many in no_numbers(1, 6):
            has_refusal(self, NoNumber, fence, many)
        for half in no_numbers(2, 3):
            has_refusal(self, NoNumber, crown, half)
        for half in (0, 1, 4, 5, 6):
            has_refusal(self, NoNumber, crown, half)


if __name__ == "__main__":
    unittest.main()
