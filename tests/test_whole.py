"""Promises [2], [3] and [4] over the whole program, and that the interface has its names and arguments."""

import copy
import importlib
import inspect
import random
import unittest

from nearorders.builds import without
from nearorders.desk import Desk
from nearorders.errors import NearError, NoLine, NoNumber, NoOrder, NoPairs, NoRing, NoRow, NoSeating, NoSizes, NoText
from nearorders.errors import NoThing, Round, TooFew, TooMany
from nearorders.kinds import levels_or_bar
from nearorders.orders import turned
from nearorders.papers import paper_for, paper_shows
from nearorders.rings import is_reach_paper, reach_paper, ring_shows, some_ring
from nearorders.rows import rows_many, span_of
from nearorders.seatings import least_reach, reach_of
from nearorders.spans import best_rows, least_span, spans
from tests.helper import (
    ANYTHING, NO_ORDERS, ORDERS, WHATEVER, chain, has_refusal, least_reach_by_words, least_span_by_words, rows_by_words,
    seatings_by_words, span_by_words,
)

# The names and arguments of the interface.
INTERFACE = {
    "orders": {
        "is_order": "thing", "order_of": "many pairs", "ahead_of": "order thing", "behind": "order thing",
        "loose_from": "order thing", "loose_pairs": "order", "turned": "order",
    },
    "rows": {
        "is_row": "order thing", "rows_many": "order", "all_rows": "order", "span_of": "order row",
        "farthest": "order row",
    },
    "spans": {"least_span": "order", "spans": "order", "best_rows": "order", "first_best": "order"},
    "papers": {"paper_shows": "order k thing", "paper_for": "order k"},
    "seatings": {
        "is_seating": "order thing", "reach_of": "order seating", "row_by": "order seating", "seated": "order reach",
        "least_reach": "order", "least_seating": "order",
    },
    "rings": {
        "is_ring": "order thing", "ring_shows": "order ring", "some_ring": "order", "is_reach_paper": "order thing",
        "reach_paper": "order",
    },
    "kinds": {
        "levels_order": "sizes", "chains_order": "sizes", "levels_span": "sizes", "chains_reach": "sizes",
        "levels_or_bar": "order", "fence": "many", "crown": "half",
    },
    "builds": {
        "stacked": "one other", "side_by": "one other", "without": "order thing", "rows_stacked": "one other row more",
    },
    "counts": {
        "all_orders": "many", "counted": "many", "least_alike": "order", "kinds_of": "many", "kinds_many": "many",
    },
    "texts": {"order_text": "order", "read_order": "text"},
}

ORDER = (4, ((0, 1), (2, 3)))

# What each function is handed in and answers.
ASKED = {
    "is_order": [[ORDER], [[4, [(0, 1)]]], [(2, [(0, 1)])], [{"a": [1]}]],
    "order_of": [[3, [(1, 2), (0, 1), (1, 2)]], [6, []], [2, [(1, 0)]]],
    "ahead_of": [[ORDER, 1], [chain(6), 5], [(1, ()), 0]],
    "behind": [[ORDER, 0], [chain(6), 0], [(1, ()), 0]],
    "loose_from": [[ORDER, 1], [(6, ()), 3], [(1, ()), 0]],
    "loose_pairs": [[ORDER], [(6, ())], [chain(3)]],
    "turned": [[ORDER], [(1, ())], [chain(6)]],
    "is_row": [[ORDER, (0, 1, 2, 3)], [ORDER, [0, 1, 2, 3]], [ORDER, ([0], {1: [2]})]],
    "rows_many": [[ORDER], [(5, ())], [chain(3)]],
    "all_rows": [[ORDER], [(4, ())], [chain(3)]],
    "span_of": [[ORDER, (0, 1, 2, 3)], [(1, ()), (0,)]],
    "farthest": [[ORDER, (0, 1, 2, 3)], [(1, ()), (0,)]],
    "least_span": [[ORDER], [(5, ())], [chain(3)]],
    "spans": [[ORDER], [(5, ())], [chain(3)]],
    "best_rows": [[ORDER], [(4, ())], [chain(3)]],
    "first_best": [[ORDER], [(4, ())], [chain(3)]],
    "paper_shows": [
        [ORDER, 1, ("spread", (0, 1, 2, 3), 2)], [ORDER, 1, ["spread", [0, 1], 2]], [ORDER, 1, ("next", [[], {}])],
        [(2, ()), 0, ("next", (("far", 0, 1), ("far", 1, 0)))],
    ],
    "paper_for": [[ORDER, 1], [ORDER, 2], [(4, ()), 0]],
    "is_seating": [[ORDER, (0, 1, 0, 1)], [ORDER, [0, 1, 0, 1]], [ORDER, ([0], {1: [2]})]],
    "reach_of": [[ORDER, (0, 1, 0, 3)], [(1, ()), (0,)]],
    "row_by": [[ORDER, (0, 1, 0, 3)], [(1, ()), (0,)]],
    "seated": [[ORDER, 0], [ORDER, 1], [(6, ()), 5]],
    "least_reach": [[ORDER], [(6, ())], [chain(3)]],
    "least_seating": [[ORDER], [(6, ())], [chain(3)]],
    "is_ring": [[ORDER, (0, 1, 2, 3)], [ORDER, [0, 1, 2, 3]], [ORDER, ([0], {1: [2]})]],
    "ring_shows": [[ORDER, (0, 1, 2, 3)], [(2, ()), (0, 1)]],
    "some_ring": [[ORDER], [(5, ())], [chain(3)]],
    "is_reach_paper": [
        [ORDER, ((0, 1, 0, 1), (0, 1, 2, 3))], [ORDER, [(0, 1, 0, 1), [0, 1, 2, 3]]], [ORDER, ([0], {1: [2]})],
    ],
    "reach_paper": [[ORDER], [(5, ())], [chain(3)]],
    "levels_order": [[[3, 1, 2]], [[1]], [[1] * 6]],
    "chains_order": [[[3, 1, 2]], [[1]], [[1] * 6]],
    "levels_span": [[[3, 10 ** 29, 2]], [[1]], [[9] * 6]],
    "chains_reach": [[[3, 10 ** 29, 2]], [[1]], [[9] * 6]],
    "levels_or_bar": [[ORDER], [(4, ())], [chain(4)]],
    "fence": [[1], [6]],
    "crown": [[2], [3]],
    "stacked": [[ORDER, (2, ())], [(1, ()), (1, ())]],
    "side_by": [[ORDER, (2, ())], [(1, ()), (1, ())]],
    "without": [[ORDER, 0], [ORDER, 3], [(2, ()), 1]],
    "rows_stacked": [[ORDER, (2, ()), (0, 1, 2, 3), (1, 0)], [(1, ()), (1, ()), (0,), (0,)]],
    "all_orders": [[1], [2], [3]],
    "counted": [[1], [2], [3]],
    "least_alike": [[ORDER], [turned(chain(4))], [(1, ())]],
    "kinds_of": [[1], [2], [3]],
    "kinds_many": [[1], [2], [3]],
    "order_text": [[ORDER], [(1, ())], [chain(6)]],
    "read_order": [["3: 0<1 0<2"], ["1:"]],
}

# What each function refuses but for NoOrder, with the refusals.
REFUSED = {
    "order_of": [
        (NoNumber, [0, [(0, 1)]]), (NoNumber, [True, None]), (NoNumber, [None, [(0, 0)]]),
        (NoPairs, [2, [(1, 0), [0, 1]]]), (NoPairs, [2, ((0, 1),)]), (Round, [2, [(1, 0), (0, 1)]]),
    ],
    "ahead_of": [(NoThing, [ORDER, 4]), (NoThing, [ORDER, True]), (NoThing, [ORDER, [1]])],
    "behind": [(NoThing, [ORDER, 4]), (NoThing, [ORDER, True]), (NoThing, [ORDER, [1]])],
    "loose_from": [(NoThing, [ORDER, 4]), (NoThing, [ORDER, True]), (NoThing, [ORDER, [1]])],
    "span_of": [(NoRow, [ORDER, [0, 1, 2, 3]]), (NoRow, [ORDER, (1, 0, 2, 3)])],
    "farthest": [(NoRow, [ORDER, [0, 1, 2, 3]]), (NoRow, [ORDER, (1, 0, 2, 3)])],
    "paper_shows": [(NoNumber, [ORDER, 6, None]), (NoNumber, [ORDER, True, None]), (NoNumber, [ORDER, [1], ["next"]])],
    "paper_for": [(NoNumber, [ORDER, 6]), (NoNumber, [ORDER, False]), (NoNumber, [ORDER, [1]])],
    "reach_of": [(NoSeating, [ORDER, [0, 1, 0, 1]]), (NoSeating, [ORDER, (0, 0, 0, 1)])],
    "row_by": [(NoSeating, [ORDER, [0, 1, 0, 1]]), (NoSeating, [ORDER, (0, 0, 0, 1)])],
    "seated": [(NoNumber, [ORDER, 6]), (NoNumber, [ORDER, True]), (NoNumber, [ORDER, [1]])],
    "ring_shows": [(NoRing, [ORDER, [0, 1, 2, 3]]), (NoRing, [ORDER, (1, 0, 2, 3)])],
    "levels_order": [(NoSizes, [[3, 0, 2]]), (NoSizes, [[True]]), (NoSizes, [(1, 2)]), (TooMany, [[3, 1, 9]])],
    "chains_order": [(NoSizes, [[3, 0, 2]]), (NoSizes, [[True]]), (NoSizes, [(1, 2)]), (TooMany, [[3, 1, 9]])],
    "levels_span": [(NoSizes, [[3, 0, 2]]), (NoSizes, [[True]]), (NoSizes, [(1, 2)])],
    "chains_reach": [(NoSizes, [[3, 0, 2]]), (NoSizes, [[True]]), (NoSizes, [(1, 2)])],
    "fence": [(NoNumber, [0]), (NoNumber, [7]), (NoNumber, [True]), (NoNumber, [[1]])],
    "crown": [(NoNumber, [1]), (NoNumber, [4]), (NoNumber, [True]), (NoNumber, [[2]])],
    "stacked": [(TooMany, [ORDER, (3, ())])],
    "side_by": [(TooMany, [ORDER, (3, ())])],
    "without": [(NoThing, [ORDER, 4]), (NoThing, [(1, ()), False]), (NoThing, [(1, ()), [0]]), (TooFew, [(1, ()), 0])],
    "rows_stacked": [
        (TooMany, [ORDER, (3, ()), [0], [1]]), (NoRow, [ORDER, (1, ()), [0, 1, 2, 3], (0,)]),
        (NoRow, [ORDER, (1, ()), (0, 1, 2, 3), [0]]), (NoRow, [ORDER, (1, ()), (0, 1, 2, 3), (False,)]),
    ],
    "all_orders": [(NoNumber, [0]), (NoNumber, [5]), (NoNumber, [True]), (NoNumber, [[1]])],
    "counted": [(NoNumber, [0]), (NoNumber, [5]), (NoNumber, [True]), (NoNumber, [[1]])],
    "kinds_of": [(NoNumber, [0]), (NoNumber, [5]), (NoNumber, [True]), (NoNumber, [[1]])],
    "kinds_many": [(NoNumber, [0]), (NoNumber, [5]), (NoNumber, [True]), (NoNumber, [[1]])],
    "read_order": [(NoText, [["3:"]]), (NoText, [None]), (NoText, ["3: "])],
}

FUNCTIONS = {
    name: getattr(importlib.import_module("nearorders." + module), name)
    for module, names in INTERFACE.items() for name in names
}
ARGUMENTS = {name: arguments.split() for names in INTERFACE.values() for name, arguments in names.items()}


def asked():
    """Each function with fresh copies of what it is handed in."""
    return [(FUNCTIONS[name], copy.deepcopy(handed)) for name in ASKED for handed in ASKED[name]]


def lists_in(thing):
    """All lists and dicts within a thing, itself among them."""
    if isinstance(thing, dict):
        return [thing] + [each for part in thing.values() for each in lists_in(part)]
    if isinstance(thing, (list, tuple)):
        here = [thing] if isinstance(thing, list) else []
        return here + [each for part in thing for each in lists_in(part)]
    return []


def spoil(thing):
    """Change all lists and dicts within a thing."""
    for each in lists_in(thing):
        each.clear()
        if isinstance(each, list):
            each.extend(["changed", (0, 0)])
        else:
            each["changed"] = [0]


def built(chance, depth):
    """A thing built of all that [2] names, at most so deep."""
    kind = chance.choice("number great truth None text word list tuple tuple tuple dict".split())
    if depth == 0 or kind in ("number", "great", "truth", "None", "text", "word"):
        return {
            "great": chance.choice([10 ** 29, -(10 ** 29), 10 ** 30 - 1]), "truth": chance.choice([True, False]),
            "None": None, "text": chance.choice(["", "3:", "2: 0<1", "order", "\u0663", "\ud800"]),
            "word": chance.choice(["spread", "far", "next", "bar", "levels"]),
        }.get(kind, chance.randint(-1, 6))
    parts = [built(chance, depth - 1) for _ in range(chance.randint(0, 4))]
    return {"list": parts, "tuple": tuple(parts), "dict": dict(enumerate(parts))}[kind]


class Interface(unittest.TestCase):
    def test_names_and_arguments(self):
        for name, function in FUNCTIONS.items():
            parameters = inspect.signature(function).parameters
            self.assertEqual(list(parameters), ARGUMENTS[name], name)
            self.assertTrue(all(each.default is inspect.Parameter.empty for each in parameters.values()), name)

    def test_a_desk(self):
        self.assertEqual(list(inspect.signature(Desk).parameters), [])
        self.assertEqual(list(inspect.signature(Desk().say).parameters), ["line"])

    def test_each_function_is_asked_here(self):
        self.assertEqual(set(ASKED), set(FUNCTIONS))
        refusing = {name for name in FUNCTIONS if set(ARGUMENTS[name]) - {"order", "thing", "one", "other"}}
        self.assertEqual(refusing - set(REFUSED), set())


class HandedInAndTold(unittest.TestCase):
    def test_what_is_handed_in_stays_as_it_was(self):
        for function, handed in asked():
            before = copy.deepcopy(handed)
            function(*handed)
            self.assertEqual(repr(handed), repr(before), function.__name__)

    def test_what_is_refused_stays_as_it_was(self):
        for name, cases in REFUSED.items():
            for refusal, handed in cases:
                has_refusal(self, refusal, FUNCTIONS[name], *copy.deepcopy(handed))

    def test_what_is_refused_changes_no_answer(self):
        before = [function(*handed) for function, handed in asked()]
        for name, cases in REFUSED.items():
            for refusal, handed in cases:
                has_refusal(self, refusal, FUNCTIONS[name], *handed)
            has_refusal(self, NoLine, Desk().say, name)
        self.assertEqual([function(*handed) for function, handed in asked()], before)

    def test_the_same_answer_when_asked_again(self):
        forward = [function(*handed) for function, handed in asked()]
        backward = [function(*handed) for function, handed in asked()[::-1]][::-1]
        self.assertEqual(forward, backward)
        self.assertEqual(repr(forward), repr(backward))

    def test_a_told_list_that_is_changed_changes_no_later_answer(self):
        before = [copy.deepcopy(function(*handed)) for function, handed in asked()]
        for function, handed in asked():
            spoil(function(*handed))
        self.assertEqual([function(*handed) for function, handed in asked()], before)

    def test_no_two_told_lists_are_one(self):
        told = [function(*handed) for function, handed in asked() + asked()]
        lists = lists_in(told)
        self.assertEqual(len({id(each) for each in lists}), len(lists))

    def test_no_told_list_was_handed_in(self):
        for function, handed in asked():
            there = {id(each) for each in lists_in(handed)}
            told = function(*handed)
            self.assertFalse(there & {id(each) for each in lists_in(told)}, function.__name__)

    def test_a_list_handed_in_and_changed_later_changes_no_answer(self):
        before = [copy.deepcopy(function(*handed)) for function, handed in asked()]
        told = []
        for function, handed in asked():
            told.append(function(*handed))
            spoil(handed)
        self.assertEqual(told, before)
        self.assertEqual([function(*handed) for function, handed in asked()], before)

    def test_a_list_handed_in_again_is_looked_at_again(self):
        pairs = [(0, 1)]
        order_of = FUNCTIONS["order_of"]
        self.assertEqual(order_of(3, pairs), (3, ((0, 1),)))
        pairs.append((1, 2))
        self.assertEqual(order_of(3, pairs), (3, ((0, 1), (0, 2), (1, 2))))
        sizes = [1, 2]
        self.assertEqual(FUNCTIONS["levels_span"](sizes), 1)
        sizes.append(3)
        self.assertEqual(FUNCTIONS["levels_span"](sizes), 2)
        self.assertEqual(FUNCTIONS["chains_order"](sizes), (6, ((1, 2), (3, 4), (3, 5), (4, 5))))


class LookedAtFirst(unittest.TestCase):
    def test_no_order_ahead_of_all_else(self):
        for name, arguments in ARGUMENTS.items():
            for at, argument in enumerate(arguments):
                if argument not in ("order", "one", "other"):
                    continue
                for wrong in NO_ORDERS[::3]:
                    for rest in (None, True, 10 ** 29, [[]], (6, ())):
                        handed = [rest] * at + [wrong] + [rest] * (len(arguments) - at - 1)
                        has_refusal(self, NoOrder, FUNCTIONS[name], *handed)

    def test_each_refusal_is_of_its_class_alone(self):
        for name, cases in REFUSED.items():
            for refusal, handed in cases:
                self.assertEqual(refusal.__bases__, (NearError,))
                has_refusal(self, refusal, FUNCTIONS[name], *handed)

    def test_a_number_is_no_truth(self):
        numbers = {"many": 1, "half": 2, "k": 1, "reach": 1}
        for name, arguments in ARGUMENTS.items():
            for at, argument in enumerate(arguments):
                if argument in numbers:
                    for truth in (True, False):
                        handed = [ORDER] * at + [truth] + [None] * (len(arguments) - at - 1)
                        has_refusal(self, NoNumber, FUNCTIONS[name], *handed)


class OfAnything(unittest.TestCase):
    def test_is_answered(self):
        chance = random.Random(2)
        things = ANYTHING + [built(chance, depth) for depth in (1, 2, 3, 4) for _ in range(250)]
        for thing in things:
            before = copy.deepcopy(thing)
            self.assertIn(FUNCTIONS["is_order"](thing), (True, False))
            for order in [(1, ()), (2, ()), ORDER, chain(3)]:
                for name in ("is_row", "is_seating", "is_ring", "is_reach_paper"):
                    self.assertIs(type(FUNCTIONS[name](order, thing)), bool)
                    if isinstance(thing, list):
                        self.assertIs(FUNCTIONS[name](order, thing), False)
                for k in (0, 1, 5):
                    self.assertIs(type(paper_shows(order, k, thing)), bool)
            for told in (FUNCTIONS["read_order"], Desk().say):
                try:
                    told(thing)
                except NearError as error:
                    self.assertIn(type(error), (NoText, NoLine))
                else:
                    self.assertIsInstance(thing, str)
            self.assertEqual(thing, before)

    def test_sixteen_within_one_another(self):
        for make, times in [
            (lambda thing: (thing,), 15), (lambda thing: [thing], 15), (lambda thing: {0: thing}, 15),
            (lambda thing: (0, thing), 15), (lambda thing: ("next", (thing,)), 7), (lambda thing: ("next", [thing]), 7),
        ]:
            thing = ("far", 0, 1)
            for _ in range(times):
                thing = make(thing)
            self.assertIs(FUNCTIONS["is_order"](thing), False)
            for order in [(1, ()), (6, ()), chain(6)]:
                for k in range(6):
                    self.assertIs(paper_shows(order, k, thing), False)
                for name in ("is_row", "is_seating", "is_ring", "is_reach_paper"):
                    self.assertIs(FUNCTIONS[name](order, thing), False)
            has_refusal(self, NoText, FUNCTIONS["read_order"], thing)
            has_refusal(self, NoLine, Desk().say, thing)

    def test_a_refusal_is_due_of_a_thing_of_whatever_kind(self):
        for thing in WHATEVER:
            has_refusal(self, NoText, FUNCTIONS["read_order"], thing)
            has_refusal(self, NoLine, Desk().say, thing)
            has_refusal(self, NoOrder, FUNCTIONS["order_text"], thing)
            has_refusal(self, NoOrder, FUNCTIONS["least_alike"], thing)


class ThePromise(unittest.TestCase):
    def test_the_least_span_and_the_best_rows(self):
        for order in ORDERS:
            every = {row: span_by_words(order, row) for row in rows_by_words(order)}
            least = min(every.values())
            self.assertEqual(least_span(order), least)
            self.assertEqual(best_rows(order), sorted(row for row, span in every.items() if span == least))

    def test_there_is_a_paper_just_where_no_row_is_so_near(self):
        for order in ORDERS[::3]:
            for k in range(6):
                paper = paper_for(order, k)
                self.assertIs(paper is None, least_span_by_words(order) <= k, (order, k))
                self.assertIs(paper_shows(order, k, paper), paper is not None, (order, k))

    def test_shared_places_reach_no_farther_and_no_seating_less_than_a_ring_shows(self):
        for order in ORDERS:
            self.assertLessEqual(least_reach(order), least_span(order))
            self.assertEqual(least_reach(order), least_reach_by_words(order))
            ring = some_ring(order)
            if ring is not None:
                self.assertTrue(all(reach >= ring_shows(order, ring) for seating, reach in seatings_by_words(order)))
            seating, ring = reach_paper(order)
            self.assertIs(is_reach_paper(order, (seating, ring)), True)
            self.assertEqual(reach_of(order, seating), least_reach(order))

    def test_turned_about_an_order_has_the_same_numbers(self):
        for order in ORDERS:
            about = turned(order)
            self.assertEqual(
                (least_span(about), least_reach(about), spans(about), rows_many(about), len(best_rows(about))),
                (least_span(order), least_reach(order), spans(order), rows_many(order), len(best_rows(order))),
            )
            self.assertEqual(levels_or_bar(about)[0], levels_or_bar(order)[0])
            for row in best_rows(order)[:5]:
                self.assertEqual(span_of(about, row[::-1]), span_of(order, row))

    def test_without_several_things_they_are_never_greater(self):
        for order in ORDERS:
            span, reach = least_span(order), least_reach(order)
            while order[0] > 1:
                order = without(order, order[0] // 2)
                self.assertLessEqual(least_span(order), span)
                self.assertLessEqual(least_reach(order), reach)
                span, reach = least_span(order), least_reach(order)


if __name__ == "__main__":
    unittest.main()
