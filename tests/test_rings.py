"""Promises [61], [62], [63], [4] of rings, and [2], [3] where they bear on them."""

import copy
import itertools
import math
import unittest
from fractions import Fraction

from nearorders.errors import NoOrder, NoRing
from nearorders.orders import turned
from nearorders.rings import is_reach_paper, is_ring, reach_paper, ring_shows, some_ring
from nearorders.seatings import least_reach, least_seating
from tests.helper import (
    ANYTHING, NO_ORDERS, ORDERS, SMALL, WHATEVER, chain, has_refusal, least_reach_by_words, loose_by_words,
    rings_by_words, seatings_by_words,
)

TWO_BY_ONE = (3, ((0, 1),))
TWO_CHAINS = (6, ((0, 1), (0, 2), (1, 2), (3, 4), (3, 5), (4, 5)))
FOUR_BY_ONE = (5, tuple(itertools.combinations(range(4), 2)))

# What is no ring of the order of three loose things.
NO_RINGS = WHATEVER + [
    (1,), (0, 0), (0, 1, 0), (0, 0, 1), (0, 1, 1), (0, 1, 2, 0), (0, 1, 2, 3), (0, 3), (3, 0), (-1, 0), (0, -1),
    [0, 1], [0, 1, 2], "01", "012", {0: 1, 1: 0}, (False, True), (0, True), (False, 1), (True, 2), (0, None),
    (0, "1"), (0, [1]), (0, (1,)), ((0, 1),), ((0, 1), (1, 0)), ((0,), (1,)), ([], []), ({}, {}), (0, 1.0), {0, 1},
    range(2), (0, 10 ** 29), (None, None), (0, 1, 2, 10 ** 29),
]


def shown_by_words(up, aside):
    return math.ceil(Fraction(up, aside))


class IsRing(unittest.TestCase):
    def test_of_two_things(self):
        for order in ORDERS:
            for a, b in itertools.product(range(order[0]), repeat=2):
                self.assertIs(is_ring(order, (a, b)), tuple(sorted((a, b))) in loose_by_words(order), (order, a, b))

    def test_the_step_from_the_last_one_to_the_first_one(self):
        # Between 0 and 1 there is but the step up from 0; 2 is loose from both.
        self.assertIs(is_ring(TWO_BY_ONE, (0, 1, 2)), True)
        self.assertIs(is_ring(TWO_BY_ONE, (1, 2, 0)), True)
        self.assertIs(is_ring(TWO_BY_ONE, (2, 0, 1)), True)
        self.assertIs(is_ring(TWO_BY_ONE, (0, 2, 1)), False)
        self.assertIs(is_ring(TWO_BY_ONE, (2, 1, 0)), False)
        self.assertIs(is_ring(TWO_BY_ONE, (1, 0, 2)), False)
        self.assertIs(is_ring(TWO_BY_ONE, (0, 1)), False)
        self.assertIs(is_ring(TWO_BY_ONE, (1, 0)), False)

    def test_one_thing_alone_and_none(self):
        for order in ORDERS:
            self.assertIs(is_ring(order, ()), False)
            for thing in range(order[0]):
                self.assertIs(is_ring(order, (thing,)), False)

    def test_a_thing_twice(self):
        self.assertIs(is_ring((3, ()), (0, 1, 2)), True)
        for ring in [(0, 1, 0, 2), (0, 1, 0, 1), (0, 1, 2, 0), (0, 1, 2, 1), (0, 0), (0, 0, 1), (0, 1, 1), (1, 0, 0)]:
            self.assertIs(is_ring((3, ()), ring), False, ring)
        self.assertIs(is_ring((2, ()), (0, 1, 0, 1)), False)

    def test_all_tuples_of_few_things(self):
        for order in SMALL:
            many = order[0]
            right = {ring for ring, up, aside in rings_by_words(order)}
            for length in range(many + 2 if many < 4 else many + 1):
                for ring in itertools.product(range(many), repeat=length):
                    self.assertIs(is_ring(order, ring), ring in right, (order, ring))

    def test_all_of_unlike_things(self):
        for order in ORDERS[-15:]:
            right = {ring for ring, up, aside in rings_by_words(order)}
            for length in range(order[0] + 1):
                for ring in itertools.permutations(range(order[0]), length):
                    self.assertIs(is_ring(order, ring), ring in right, (order, ring))

    def test_none_where_all_things_are_in_one_row(self):
        for many in range(1, 6):
            for length in range(many + 1):
                for ring in itertools.permutations(range(many), length):
                    self.assertIs(is_ring(chain(many), ring), False)

    def test_no_rings(self):
        for thing in NO_RINGS:
            self.assertIs(is_ring((3, ()), thing), False, thing)

    def test_anything(self):
        for thing in ANYTHING:
            for order in [(1, ()), (2, ()), chain(5), (6, ())]:
                self.assertIs(is_ring(order, thing), False, thing)
            self.assertIs(is_ring((2, ()), (thing, 0)), type(thing) is int and thing == 1, thing)
            self.assertIs(is_ring((2, ()), (1, thing)), type(thing) is int and thing == 0, thing)
            self.assertIs(is_ring((3, ()), (0, 1, thing)), type(thing) is int and thing == 2, thing)

    def test_nothing_is_changed(self):
        for thing in [[1, 0], ([1], [0]), {1: [0]}]:
            before = copy.deepcopy(thing)
            is_ring((2, ()), thing)
            self.assertEqual(thing, before)


class RingShows(unittest.TestCase):
    def test_where_it_comes_out_even(self):
        self.assertEqual(ring_shows((2, ()), (0, 1)), 0)
        self.assertEqual(ring_shows((6, ()), (5, 3, 1, 0, 2, 4)), 0)
        self.assertEqual(ring_shows(TWO_CHAINS, (0, 1, 2, 3, 4, 5)), 2)
        self.assertEqual(ring_shows(TWO_CHAINS, (0, 2, 3, 5)), 1)
        self.assertEqual(ring_shows(FOUR_BY_ONE, (0, 1, 2, 4)), 1)

    def test_where_it_is_rounded_up(self):
        self.assertEqual(ring_shows(TWO_BY_ONE, (0, 1, 2)), 1)
        self.assertEqual(ring_shows(TWO_CHAINS, (0, 1, 2, 3, 4)), 2)
        self.assertEqual(ring_shows(TWO_CHAINS, (0, 2, 3)), 1)
        self.assertEqual(ring_shows(FOUR_BY_ONE, (0, 1, 2, 3, 4)), 2)
        # One step up by four aside.
        self.assertEqual(ring_shows((5, ((0, 1),)), (0, 1, 2, 3, 4)), 1)

    def test_it_is_the_same_wherever_it_begins(self):
        for ring in [(0, 1, 2, 3, 4, 5), (0, 2, 3), (0, 1, 2, 3, 4), (1, 2, 5)]:
            told = {ring_shows(TWO_CHAINS, ring[at:] + ring[:at]) for at in range(len(ring))}
            self.assertEqual(len(told), 1)

    def test_all_by_the_words(self):
        for order in ORDERS:
            for ring, up, aside in rings_by_words(order):
                self.assertEqual(ring_shows(order, ring), shown_by_words(up, aside), (order, ring))

    def test_a_ring_has_two_steps_aside_at_least(self):
        for order in ORDERS:
            self.assertTrue(all(aside >= 2 for ring, up, aside in rings_by_words(order)))

    def test_no_seating_has_a_lesser_reach(self):
        for order in ORDERS:
            least = least_reach_by_words(order)
            for ring, up, aside in rings_by_words(order)[::3]:
                self.assertLessEqual(ring_shows(order, ring), least, (order, ring))

    def test_no_ring(self):
        for thing in NO_RINGS:
            has_refusal(self, NoRing, ring_shows, (3, ()), thing)
        for ring in [(0, 2, 1), (0, 1), (1, 0), (2, 1, 0), (0, 1, 2, 0), (2,), ()]:
            has_refusal(self, NoRing, ring_shows, TWO_BY_ONE, ring)
        for ring in [(0, 1, 2, 3, 4, 5), (0, 1), (0,), (), None]:
            has_refusal(self, NoRing, ring_shows, chain(6), ring)

    def test_no_order_ahead_of_no_ring(self):
        for told in (is_ring, ring_shows):
            for order in NO_ORDERS:
                has_refusal(self, NoOrder, told, order, (0, 1))
                has_refusal(self, NoOrder, told, order, None)


class SomeRing(unittest.TestCase):
    def test_it_shows_just_the_least_reach(self):
        for order in ORDERS:
            ring = some_ring(order)
            if not loose_by_words(order):
                self.assertIs(ring, None, order)
                continue
            self.assertIs(is_ring(order, ring), True, order)
            self.assertEqual(ring_shows(order, ring), least_reach_by_words(order), order)
            self.assertEqual(ring_shows(order, ring), least_reach(order), order)

    def test_none_where_no_two_are_loose(self):
        for many in range(1, 7):
            self.assertIs(some_ring(chain(many)), None)
            self.assertIs(some_ring(turned(chain(many))), None)

    def test_where_two_are_loose_there_is_one(self):
        self.assertIn(some_ring((2, ())), [(0, 1), (1, 0)])
        self.assertIn(some_ring((3, ((0, 1), (0, 2)))), [(1, 2), (2, 1)])
        self.assertEqual(ring_shows(TWO_CHAINS, some_ring(TWO_CHAINS)), 2)

    def test_turned_about_it_shows_the_same(self):
        for order in ORDERS:
            if loose_by_words(order):
                told = turned(order)
                self.assertEqual(ring_shows(told, some_ring(told)), ring_shows(order, some_ring(order)))

    def test_the_same_when_asked_again(self):
        for order in ORDERS[::7]:
            self.assertEqual(some_ring(order), some_ring(order))

    def test_no_order(self):
        for order in NO_ORDERS:
            has_refusal(self, NoOrder, some_ring, order)


class ReachPapers(unittest.TestCase):
    def test_some_with_a_ring(self):
        self.assertIs(is_reach_paper((2, ()), ((0, 0), (0, 1))), True)
        self.assertIs(is_reach_paper((2, ()), ((1, 1), (1, 0))), True)
        self.assertIs(is_reach_paper((2, ()), ((0, 1), (0, 1))), False)
        self.assertIs(is_reach_paper((2, ()), ((0, 0), None)), False)
        self.assertIs(is_reach_paper(TWO_BY_ONE, ((0, 1, 0), (0, 1, 2))), True)
        self.assertIs(is_reach_paper(TWO_BY_ONE, ((0, 1, 1), (1, 2, 0))), True)
        self.assertIs(is_reach_paper(TWO_BY_ONE, ((0, 2, 1), (0, 1, 2))), True)
        self.assertIs(is_reach_paper(TWO_BY_ONE, ((0, 1, 2), (0, 1, 2))), False)
        self.assertIs(is_reach_paper(TWO_BY_ONE, ((0, 1, 0), (0, 2))), False)
        self.assertIs(is_reach_paper(TWO_BY_ONE, ((0, 1, 0), (0, 2, 1))), False)
        self.assertIs(is_reach_paper(TWO_BY_ONE, ((0, 0, 0), (0, 2))), False)

    def test_some_with_none(self):
        for many in range(1, 7):
            places = tuple(range(many))
            self.assertIs(is_reach_paper(chain(many), (places, None)), True)
            self.assertEqual(reach_paper(chain(many)), (places, None))
            for ring in [(), (0,), (0, 1), places, False, 0, "None"]:
                self.assertIs(is_reach_paper(chain(many), (places, ring)), False)
            self.assertIs(is_reach_paper(chain(many), (places[:-1] + (many,), None)), False)
            self.assertIs(is_reach_paper(chain(many), (places[:-1], None)), False)

    def test_all_by_the_words(self):
        for order in SMALL[::3]:
            rings = [(ring, shown_by_words(up, aside)) for ring, up, aside in rings_by_words(order)][:30]
            for seating, reach in seatings_by_words(order)[::4]:
                self.assertIs(is_reach_paper(order, (seating, None)), not loose_by_words(order))
                for ring, shown in rings:
                    told = is_reach_paper(order, (seating, ring))
                    self.assertIs(told, shown == reach, (order, seating, ring))
                    self.assertFalse(told and reach > least_reach_by_words(order))

    def test_the_told_one(self):
        for order in ORDERS:
            told = reach_paper(order)
            self.assertIs(type(told), tuple)
            seating, ring = told
            self.assertIs(is_reach_paper(order, told), True, order)
            self.assertIn((seating, least_reach_by_words(order)), seatings_by_words(order))
            if loose_by_words(order):
                up, aside = next((up, aside) for each, up, aside in rings_by_words(order) if each == ring)
                self.assertEqual(shown_by_words(up, aside), least_reach_by_words(order))
            else:
                self.assertIs(ring, None)
            self.assertEqual(reach_paper(order), told)

    def test_wrong_parts(self):
        for order in [(2, ()), TWO_BY_ONE, TWO_CHAINS, chain(3)]:
            seating, ring = reach_paper(order)
            for thing in WHATEVER:
                self.assertIs(is_reach_paper(order, (thing, ring)), False)
                self.assertIs(is_reach_paper(order, (seating, thing)), thing is None and order == chain(3))
            for thing in [
                [seating, ring], (seating,), (seating, ring, ring), (ring, seating), (list(seating), ring), seating,
                seating + (1,), {seating: ring}, ((seating, ring),), ring, (seating, ring, None), (None, None), (),
                (None, ring),
            ]:
                self.assertIs(is_reach_paper(order, thing), False, (order, thing))
            if ring is not None:
                for other in [list(ring), ring[:1], ring + ring[:1], (), tuple(map(str, ring)), ring[:-1] + (True,)]:
                    self.assertIs(is_reach_paper(order, (seating, other)), False, (order, other))

    def test_anything(self):
        for thing in ANYTHING:
            for order in [(1, ()), (2, ()), chain(3), (6, ())]:
                for paper in [thing, (thing, thing), (thing,), [thing, thing], ((thing,), (thing,)), ((0,), (thing,))]:
                    told = is_reach_paper(order, paper)
                    self.assertIs(told, False, (order, paper))
                told = is_reach_paper(order, ((0,), thing))
                self.assertIs(told, order == (1, ()) and thing is None, (order, thing))

    def test_nothing_is_changed(self):
        for thing in [[(0, 0), (0, 1)], ([0, 0], [0, 1]), {0: [1]}]:
            before = copy.deepcopy(thing)
            is_reach_paper((2, ()), thing)
            self.assertEqual(thing, before)

    def test_its_seating_may_be_the_least_one(self):
        for order in ORDERS[::3]:
            self.assertIs(is_reach_paper(order, (least_seating(order), some_ring(order))), True)

    def test_no_order(self):
        for order in NO_ORDERS:
            has_refusal(self, NoOrder, reach_paper, order)
            has_refusal(self, NoOrder, is_reach_paper, order, ((0,), None))
            has_refusal(self, NoOrder, is_reach_paper, order, None)


if __name__ == "__main__":
    unittest.main()
