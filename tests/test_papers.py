"""Promises [41] and [42], [4] of papers, and [2], [3] where they bear on them."""

import copy
import functools
import itertools
import unittest

from nearorders.errors import NoNumber, NoOrder
from nearorders.orders import turned
from nearorders.papers import paper_for, paper_shows
from nearorders.spans import least_span
from tests.helper import (
    ANYTHING, LARGER, NO_ORDERS, ORDERS, SMALL, WHATEVER, chain, has_refusal, least_span_by_words, loose_by_words,
    no_numbers,
)

# Thing 0 beside the chain of 1, 2, 3: the least span is 2, and 0 is one step aside from each.
ONE_BY_THREE = (4, ((1, 2), (1, 3), (2, 3)))
# Loose are neighbours alone, so from a to b it is as many steps aside as their numbers differ.
NEIGHBOURS = (6, tuple((a, b) for a in range(6) for b in range(a + 2, 6)))
# 0 and 1 loose, 2 and 3 loose, all else ahead: the two loose pairs are not joined.
TWO_LEVELS = (4, ((0, 2), (0, 3), (1, 2), (1, 3)))
FEW = [order for order in SMALL if order[0] < 4] + SMALL[30::9] + LARGER[1:5] + [NEIGHBOURS, TWO_LEVELS, ONE_BY_THREE]


@functools.cache
def far_by_words(order):
    """How many steps aside join two things at least: of each two that any number joins."""
    things = range(order[0])
    found = {(thing, thing): 0 for thing in things}
    for a, b in loose_by_words(order):
        found[a, b] = found[b, a] = 1
    for middle, a, b in itertools.product(things, repeat=3):
        if (a, middle) in found and (middle, b) in found:
            found[a, b] = min(found.get((a, b), 99), found[a, middle] + found[middle, b])
    return found


def is_number(thing, low, high):
    return type(thing) is int and thing in range(low, high + 1)


def spread_by_words(order, k, things, far):
    if type(things) is not tuple or not is_number(far, 1, 5):
        return False
    if not all(is_number(thing, 0, order[0] - 1) for thing in things) or list(things) != sorted(set(things)):
        return False
    joined = far_by_words(order)
    return all(joined.get(two, 99) <= far for two in itertools.combinations(things, 2)) and len(things) - 1 > k * far


def far_one_by_words(order, k, stands, a, b):
    if not is_number(a, 0, order[0] - 1) or not is_number(b, 0, order[0] - 1):
        return False
    if a not in stands or b in stands:
        return False
    return tuple(sorted((a, b))) in loose_by_words(order) and len(stands[stands.index(a) + 1:]) >= k


def next_things(order, stands):
    many, pairs = order
    return [
        thing for thing in range(many)
        if thing not in stands and all(a in stands for a in range(many) if (a, thing) in pairs)
    ]


def paper_by_words(order, k, stands, paper):
    """The words of [41], one by one."""
    match paper:
        case tuple(("spread", things, far)):
            return spread_by_words(order, k, things, far)
        case tuple(("far", a, b)):
            return far_one_by_words(order, k, stands, a, b)
        case tuple(("next", tuple(papers))):
            coming = next_things(order, stands)
            return 0 < len(coming) == len(papers) and all(
                paper_by_words(order, k, stands + (thing,), part) for thing, part in zip(coming, papers)
            )
    return False


def rising_spreads(many):
    """All "spread" papers, right ones and wrong ones, of rising things."""
    for size in range(many + 1):
        for things in itertools.combinations(range(many), size):
            for far in range(-1, 8):
                yield ("spread", things, far)


def fars(many):
    return [("far", a, b) for a in range(-1, many + 1) for b in range(-1, many + 1)]


@functools.cache
def right_spreads(order, k):
    return [part for part in rising_spreads(order[0]) if spread_by_words(order, k, part[1], part[2])]


def leaf_by_words(order, k, stands):
    """Some paper that is no "next", None where there is none."""
    leaves = [far for far in fars(order[0]) if far_one_by_words(order, k, stands, far[1], far[2])]
    leaves += right_spreads(order, k)
    return leaves[-1] if leaves else None


@functools.cache
def longest_paper(order, k, stands=()):
    """A paper that goes on with "next" as long as there is a paper behind, None where there is none."""
    coming = next_things(order, stands)
    parts = [longest_paper(order, k, stands + (thing,)) for thing in coming]
    if parts and None not in parts:
        return ("next", tuple(parts))
    return leaf_by_words(order, k, stands)


def places_within(paper, way=()):
    """The ways to all that a paper is built of, itself first."""
    yield way
    if type(paper) is tuple:
        for at, part in enumerate(paper):
            yield from places_within(part, way + (at,))


def part_at(paper, way):
    for at in way:
        paper = paper[at]
    return paper


def is_named(part):
    return type(part) is tuple and part[0] in ("spread", "far", "next")


def changed(paper, way, change):
    """The paper with what stands at the end of the way changed."""
    if not way:
        return change(paper)
    at = way[0]
    return paper[:at] + (changed(paper[at], way[1:], change),) + paper[at + 1:]


def replaced(paper, way, other):
    return changed(paper, way, lambda part: other)


def next_loose(many, standing, parts):
    """A "next" for loose things: parts(thing) for each that does not stand yet."""
    return ("next", tuple(parts(thing) for thing in range(many) if thing not in standing))


# That two loose things come no nearer than by 1, and three by 2.
TWO_APART = next_loose(2, (), lambda a: ("far", a, 1 - a))
THREE_APART = next_loose(3, (), lambda a: next_loose(3, (a,), lambda b: ("far", a, 3 - a - b)))


class Spread(unittest.TestCase):
    def shows(self, order, k, things, far, told):
        self.assertIs(paper_shows(order, k, ("spread", things, far)), told, (order, k, things, far))

    def test_just_enough_things_and_just_not(self):
        for many in range(1, 7):
            things = tuple(range(many))
            for k in range(6):
                for far in range(1, 6):
                    self.shows((many, ()), k, things, far, many - 1 > k * far)

    def test_no_things_and_one(self):
        for order in [(1, ()), (2, ()), (6, ()), chain(3)]:
            for far in range(-1, 7):
                for k in range(6):
                    self.shows(order, k, (), far, False)
                    self.shows(order, k, (0,), far, False)

    def test_things_just_far_steps_aside_apart(self):
        for a, b in itertools.combinations(range(6), 2):
            for far in range(1, 6):
                self.shows(NEIGHBOURS, 0, (a, b), far, b - a <= far)
        self.shows(NEIGHBOURS, 0, (0, 1, 2, 3, 4, 5), 5, True)
        self.shows(NEIGHBOURS, 0, (0, 1, 2, 3, 4, 5), 4, False)
        self.shows(NEIGHBOURS, 1, (0, 1, 2, 3, 4, 5), 5, False)

    def test_far_of_more_than_one_step(self):
        self.shows(ONE_BY_THREE, 1, (0, 1, 2, 3), 2, True)
        self.shows(ONE_BY_THREE, 1, (1, 2, 3), 2, False)
        self.shows(ONE_BY_THREE, 1, (0, 1, 2, 3), 1, False)
        self.shows(ONE_BY_THREE, 1, (0, 1, 2, 3), 3, False)
        self.shows(ONE_BY_THREE, 2, (0, 1, 2, 3), 2, False)
        self.shows(ONE_BY_THREE, 0, (1, 3), 2, True)
        self.shows(ONE_BY_THREE, 0, (1, 3), 1, False)

    def test_things_not_joined_at_all(self):
        for far in range(1, 6):
            for a, b in itertools.combinations(range(4), 2):
                self.shows(TWO_LEVELS, 0, (a, b), far, (a, b) in [(0, 1), (2, 3)])
            self.shows(TWO_LEVELS, 0, (0, 1, 2), far, False)
            self.shows(TWO_LEVELS, 0, (0, 1, 2, 3), far, False)
            self.shows(chain(6), 0, (0, 1, 2, 3, 4, 5), far, False)

    def test_far_below_one_and_above_five(self):
        for far in no_numbers(1, 5):
            for k in range(6):
                self.shows((6, ()), k, (0, 1, 2, 3, 4, 5), far, False)
        for far in (1, 2, 3, 4, 5):
            self.shows((6, ()), 0, (0, 1, 2, 3, 4, 5), far, True)

    def test_things_that_do_not_rise(self):
        for things in itertools.product(range(3), repeat=3):
            self.shows((3, ()), 0, things, 1, things == (0, 1, 2))
        for things in [(0, 0), (1, 0), (0, 1, 1), (0, 2, 1), (0, 1, 2, 2), (2, 1, 0), (0, 1, 0)]:
            self.shows((3, ()), 0, things, 1, False)

    def test_things_that_are_none(self):
        for thing in no_numbers(0, 2):
            self.shows((3, ()), 0, (0, thing), 1, False)
            self.shows((3, ()), 0, (thing, 2), 1, False)
            self.shows((3, ()), 0, (0, 1, thing), 1, False)
        for thing in WHATEVER:
            self.shows((3, ()), 0, thing, 1, False)
        for things in [[0, 1], "01", {0: 0, 1: 1}, {0, 1}, range(2), (0, True), (False, 1), ((0, 1),), ([0], [1])]:
            self.shows((3, ()), 0, things, 1, False)

    def test_within_next(self):
        three = ("spread", (0, 1, 2), 1)
        self.assertIs(paper_shows((3, ()), 1, ("next", (three, three, three))), True)
        self.assertIs(paper_shows((3, ()), 2, ("next", (three, three, three))), False)
        for things, far in [((0, 1), 1), ((0, 1, 2), 2), ((0, 2, 1), 1), ((0, 1, 2), 0)]:
            for at in range(3):
                paper = replaced(("next", (three,) * 3), (1, at), ("spread", things, far))
                self.assertIs(paper_shows((3, ()), 1, paper), False)
        # It may stand where all things of a row stand too.
        row = ("next", (("next", (("spread", (1, 2), 1),)), ("next", (("spread", (1, 2), 1),))))
        self.assertIs(paper_shows((3, ((0, 1), (0, 2))), 0, ("next", (row,))), True)

    def test_all_of_rising_things(self):
        for order in FEW:
            for k in range(6):
                for paper in rising_spreads(order[0]):
                    told = paper_shows(order, k, paper)
                    self.assertIs(told, spread_by_words(order, k, paper[1], paper[2]), (order, k, paper))
                    self.assertFalse(told and least_span_by_words(order) <= k, (order, k, paper))


class Far(unittest.TestCase):
    def test_none_at_the_beginning(self):
        for order in [(1, ()), (2, ()), (4, ()), ONE_BY_THREE]:
            for k in range(6):
                for paper in fars(order[0]):
                    self.assertIs(paper_shows(order, k, paper), False)

    def test_two_and_three_apart(self):
        for k in range(6):
            self.assertIs(paper_shows((2, ()), k, TWO_APART), k < 1)
            self.assertIs(paper_shows((3, ()), k, THREE_APART), k < 2)

    def test_each_a_and_b_with_one_standing(self):
        for a, b in itertools.product(range(-1, 4), repeat=2):
            paper = ("next", (("far", a, b), ("far", 1, 0), ("far", 2, 0)))
            self.assertIs(paper_shows((3, ()), 0, paper), a == 0 and b in (1, 2), paper)
            self.assertIs(paper_shows((3, ()), 1, paper), False)

    def test_each_a_and_b_with_two_standing(self):
        # Behind 2 stands one, behind 0 none.
        for a, b in itertools.product(range(-1, 4), repeat=2):
            paper = replaced(THREE_APART, (1, 2, 1, 0), ("far", a, b))
            self.assertIs(paper_shows((3, ()), 0, paper), a in (0, 2) and b == 1, paper)
            self.assertIs(paper_shows((3, ()), 1, paper), a == 2 and b == 1, paper)

    def test_a_and_b_that_are_not_loose(self):
        order = (3, ((0, 1),))
        right = ("next", (("far", 0, 2), ("far", 2, 0)))
        self.assertIs(paper_shows(order, 0, right), True)
        self.assertIs(paper_shows(order, 0, replaced(right, (1, 0), ("far", 0, 1))), False)
        order = (3, ((1, 0), (2, 0), (2, 1)))
        for b in (0, 1):
            self.assertIs(paper_shows(order, 0, ("next", (("far", 2, b),))), False)

    def test_how_many_stand_behind(self):
        # Loose from one another are 0 and each of 1 to 5, which stand in their order.
        order = (6, tuple(itertools.combinations(range(1, 6), 2)))
        for stand in range(1, 6):
            begun = tuple(range(1, stand + 1))
            for a, k in itertools.product(begun, range(6)):
                paper = ("far", a, 0)
                for thing in begun[::-1]:
                    early = ("spread", (0, thing), 1) if k == 0 else longest_paper(order, k, begun[:thing - 1] + (0,))
                    paper = ("next", (early, paper))
                told = paper_shows(order, k, paper)
                self.assertIs(told, paper_by_words(order, k, (), paper), (k, paper))
                if stand - a < k:
                    self.assertIs(told, False)

    def test_parts_that_are_no_things(self):
        for thing in WHATEVER:
            for at in (0, 1):
                for part in (1, 2):
                    paper = replaced(TWO_APART, (1, at, part), thing)
                    right = type(thing) is int and paper == TWO_APART
                    self.assertIs(paper_shows((2, ()), 0, paper), right, paper)
        for paper in [("far", False, True), ("far", 0, True), ("far", False, 1), ("far", 0, "1"), ("far", (0,), 1)]:
            self.assertIs(paper_shows((2, ()), 0, replaced(TWO_APART, (1, 0), paper)), False)


class Next(unittest.TestCase):
    def test_a_paper_too_few_or_too_many(self):
        for paper, many, k in [(TWO_APART, 2, 0), (THREE_APART, 3, 1)]:
            for way in places_within(paper):
                if way and way[-1] == 1 and type(part_at(paper, way)) is tuple:
                    for change in (
                        lambda papers: papers[:-1], lambda papers: papers[1:], lambda papers: papers + papers[-1:],
                        lambda papers: papers[:1] + papers, lambda papers: (), lambda papers: (papers,),
                    ):
                        self.assertIs(paper_shows((many, ()), k, changed(paper, way, change)), False)

    def test_in_another_order(self):
        self.assertIs(paper_shows((2, ()), 0, ("next", TWO_APART[1][::-1])), False)
        for papers in itertools.permutations(THREE_APART[1]):
            self.assertIs(paper_shows((3, ()), 1, ("next", papers)), papers == THREE_APART[1])
        for at in range(3):
            turned_within = changed(THREE_APART, (1, at, 1), lambda papers: papers[::-1])
            self.assertIs(paper_shows((3, ()), 1, turned_within), False)

    def test_no_papers_at_all(self):
        for order in [(1, ()), (2, ()), (3, ()), chain(2), ONE_BY_THREE]:
            for k in range(6):
                for papers in [(), [], None, "", 0, {}]:
                    self.assertIs(paper_shows(order, k, ("next", papers)), False)

    def test_where_all_things_stand_there_is_none(self):
        for many in range(1, 7):
            paper = ("next", ())
            for place in range(many):
                self.assertIs(paper_shows(chain(many), 0, paper), False)
                paper = ("next", (paper,))
            self.assertIs(paper_shows(chain(many), 0, paper), False)
            self.assertIs(paper_shows(chain(many), 0, ("next", (paper,))), False)

    def test_only_those_come_next_that_wait_for_none(self):
        order = (4, ((0, 2), (1, 2), (1, 3)))
        pair = ("spread", (0, 1), 1)
        self.assertIs(paper_shows(order, 0, ("next", (pair, pair))), True)
        self.assertIs(paper_shows(order, 0, ("next", (pair, pair, pair))), False)
        # Behind 0 only 1 may come; behind 1 it is 0 and 3; behind 0 and 1 it is 2 and 3.
        behind_0 = ("next", (("next", (pair, pair)),))
        behind_1 = ("next", (("next", (pair, pair)), pair))
        self.assertIs(paper_shows(order, 0, ("next", (behind_0, behind_1))), True)
        self.assertIs(paper_shows(order, 0, ("next", (behind_1, behind_0))), False)
        self.assertIs(paper_shows(order, 0, ("next", (behind_0, behind_0))), False)
        self.assertIs(paper_shows(order, 0, ("next", (behind_1, behind_1))), False)

    def test_lists_for_tuples(self):
        pair = ("spread", (0, 1), 1)
        for paper in [
            ["next", (pair, pair)], ("next", [pair, pair]), ("next", (list(pair), pair)), ("next", (pair, list(pair))),
            {"next": (pair, pair)}, ("next", {0: pair, 1: pair}), ("next", pair, pair), ("next", (pair, pair), ()),
            ("next",), (("next", (pair, pair)),), ("Next", (pair, pair)), ("nex", (pair, pair)), (None, (pair, pair)),
            (b"next", (pair, pair)), (["next"], (pair, pair)), ("far", (pair, pair)), ("spread", (pair, pair)),
        ]:
            self.assertIs(paper_shows((2, ()), 0, paper), False, paper)
        self.assertIs(paper_shows((2, ()), 0, ("next", (pair, pair))), True)


class PaperShows(unittest.TestCase):
    def test_papers_of_other_lengths_and_names(self):
        for paper in [
            ("spread", (0, 1)), ("spread", (0, 1), 1, 1), ("spread",), ("spread", 1, (0, 1)), ("far", (0, 1), 1),
            ["spread", (0, 1), 1], ("next", (0, 1), 1), ("Spread", (0, 1), 1), ("", (0, 1), 1), ((0, 1), 1),
            (0, (0, 1), 1), (None, (0, 1), 1), ((("spread", (0, 1), 1),)) * 2, (("spread", (0, 1), 1),), "spread",
        ]:
            self.assertIs(paper_shows((2, ()), 0, paper), False, paper)
        for far in [("far", 0, 1, 0), ("far", 0), ("far",), ["far", 0, 1], ("Far", 0, 1), ("next", 0, 1), (0, 1)]:
            self.assertIs(paper_shows((2, ()), 0, replaced(TWO_APART, (1, 0), far)), False, far)

    def test_anything(self):
        for thing in WHATEVER:
            for order in [(1, ()), (2, ()), (6, ()), chain(4)]:
                for k in (0, 1, 5):
                    for paper in [
                        thing, (thing,), ("next", thing), ("next", (thing,)), ("next", (thing, thing)),
                        ("far", thing, 1), ("far", 0, thing), ("far", thing, thing), ("spread", thing, 1),
                        ("spread", thing, thing),
                        ("spread", (thing,), 1), ("spread", (thing, thing), 1), (thing, (0, 1), 1), (thing, ()),
                        [thing], {"next": thing}, ("next", (("next", thing),)), (thing, thing, thing), (thing, thing),
                    ]:
                        self.assertIs(paper_shows(order, k, paper), False, (order, k, paper))

    def test_next_within_next_sixteen_times_and_more(self):
        for many in (1, 3, 6):
            for last in [(), ("far", 0, 1), ("next", ()), None]:
                paper = last
                for depth in range(20):
                    paper = ("next", (paper,))
                    self.assertIs(paper_shows(chain(many), 0, paper), False)

    def test_something_wrong_at_any_place(self):
        wrong = ANYTHING + [3, 4, "next", "far", "spread", (0, 1), ("far", 0, 1), ("far", 1, 0), ("next", ())]
        for order, k in [
            ((2, ()), 0), ((3, ()), 1), ((3, ((0, 1),)), 0), (ONE_BY_THREE, 1), (TWO_LEVELS, 0),
        ]:
            for paper in [paper_for(order, k), longest_paper(order, k)]:
                self.assertIs(paper_shows(order, k, paper), True)
                for way in places_within(paper):
                    for other in wrong:
                        other_paper = replaced(paper, way, other)
                        told = paper_shows(order, k, other_paper)
                        self.assertIs(told, paper_by_words(order, k, (), other_paper), (order, k, other_paper))

    def test_each_leaf_at_any_place(self):
        for order, k in [((3, ()), 1), (ONE_BY_THREE, 1), ((4, ((3, 0), (3, 1), (3, 2))), 0)]:
            paper = longest_paper(order, k)
            ways = [way for way in places_within(paper) if is_named(part_at(paper, way))]
            self.assertGreater(max(len(way) for way in ways), 3)
            for way in ways:
                for leaf in fars(order[0]) + list(rising_spreads(order[0])):
                    other_paper = replaced(paper, way, leaf)
                    told = paper_shows(order, k, other_paper)
                    self.assertIs(told, paper_by_words(order, k, (), other_paper), (order, k, other_paper))

    def test_a_paper_for_k_is_one_for_less(self):
        for order in FEW:
            for k in range(1, 6):
                for paper in [paper_for(order, k), longest_paper(order, k)]:
                    for less in range(k):
                        self.assertIs(paper_shows(order, less, paper), paper is not None, (order, k, paper))

    def test_a_paper_made_by_anyone_shows_that_no_row_is_so_near(self):
        for order in FEW:
            for k in range(6):
                paper = longest_paper(order, k)
                self.assertIs(paper is None, least_span_by_words(order) <= k, (order, k))
                self.assertIs(paper_shows(order, k, paper), paper is not None, (order, k))
                # No paper of another k or of another order shows what is not so.
                for other in FEW[::5]:
                    told = paper_shows(other, k, paper)
                    self.assertIs(told, paper_by_words(other, k, (), paper))
                    self.assertFalse(told and least_span_by_words(other) <= k)

    def test_nothing_is_changed(self):
        fars_in_a_list = ("next", [("far", 0, 1), ["far", 1, 0]])
        for thing in [["next", []], fars_in_a_list, {"spread": [1, 0]}, ("spread", [1, 0], 1)]:
            before = copy.deepcopy(thing)
            paper_shows((2, ()), 0, thing)
            self.assertEqual(thing, before)


class PaperFor(unittest.TestCase):
    def test_one_below_the_least_span_and_none_from_it_on(self):
        for order in ORDERS + [NEIGHBOURS, TWO_LEVELS, ONE_BY_THREE]:
            for k in range(6):
                paper = paper_for(order, k)
                self.assertIs(paper is None, k >= least_span_by_words(order), (order, k))
                self.assertIs(paper is None, k >= least_span(order), (order, k))
                self.assertIs(paper_shows(order, k, paper), paper is not None, (order, k))
                self.assertIs(paper_by_words(order, k, (), paper), paper is not None, (order, k))

    def test_none_where_all_things_are_in_one_row(self):
        for many in range(1, 7):
            for k in range(6):
                self.assertIs(paper_for(chain(many), k), None)
                self.assertIs(paper_for(turned(chain(many)), k), None)

    def test_of_loose_things_up_to_many_less_two(self):
        for many in range(1, 7):
            told = [paper_for((many, ()), k) is not None for k in range(6)]
            self.assertEqual(told, [k < many - 1 for k in range(6)])

    def test_turned_about_there_is_one_just_where_there_was(self):
        for order in ORDERS:
            for k in range(6):
                self.assertIs(paper_for(turned(order), k) is None, paper_for(order, k) is None)

    def test_the_same_when_asked_again(self):
        for order in ORDERS[::7]:
            for k in range(6):
                self.assertEqual(paper_for(order, k), paper_for(order, k))


class Refusals(unittest.TestCase):
    def test_no_number(self):
        for k in no_numbers(0, 5):
            for order in [(1, ()), (2, ()), chain(6)]:
                has_refusal(self, NoNumber, paper_for, order, k)
                for thing in [None, TWO_APART, ("spread", (0, 1), 1), [], {}]:
                    has_refusal(self, NoNumber, paper_shows, order, k, thing)

    def test_no_order_ahead_of_no_number(self):
        for order in NO_ORDERS:
            for k in [0, 5, 6, -1, None, True, [], 10 ** 29]:
                has_refusal(self, NoOrder, paper_for, order, k)
                has_refusal(self, NoOrder, paper_shows, order, k, None)
                has_refusal(self, NoOrder, paper_shows, order, k, TWO_APART)


if __name__ == "__main__":
    unittest.main()
