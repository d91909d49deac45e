"""What several tests share: orders by definition, wrong things, and how to expect a refusal."""

import copy
import functools
import itertools


def within(make, depth):
    """Build `depth` lists, tuples or dicts within one another."""
    thing = 0
    for _ in range(depth):
        thing = make(thing)
    return thing


class Odd:
    """Of no kind that the program knows."""


# What "of anything" may be handed in, by [2].
ANYTHING = [
    None, True, False, 0, 1, 2, 5, 6, 7, -1, -6, 10 ** 29, 10 ** 30 - 1, -(10 ** 30 - 1),
    "", "0", "01", "abc", "(1, ())", "None",
    [], [0], [0, 1], [[]], [None], [(0, 1)], [1, []],
    (), (0,), ((),), (None,), ("",), (True,), (0, 1, 2, 3, 4, 5, 6),
    {}, {0: 1}, {"a": [1]}, {(0, 1): {}},
    within(lambda thing: [thing], 16),
    within(lambda thing: (thing,), 16),
    within(lambda thing: {0: thing}, 16),
    within(lambda thing: (1, thing), 16),
    within(lambda thing: [(thing, {"a": None})], 5),
]

# A refusal is due of a thing of whatever kind.
WHATEVER = ANYTHING + [0.5, 1.0, float("nan"), b"", b"01", set(), {0, 1}, frozenset(), range(2), Odd(), Odd, len]


def no_numbers(low, high):
    """What is no whole number from low to high."""
    edges = [low - 1, high + 1, -high - 1, 10 ** 29, -(10 ** 29), True, False, str(low), [low], (low,), float(low)]
    return edges + [thing for thing in WHATEVER if type(thing) is not int or not low <= thing <= high]


NO_ORDERS = WHATEVER + [
    # how many there are
    (0, ()), (7, ()), (-1, ()), (10 ** 29, ()), (-(10 ** 29), ()), (True, ()), (False, ()), (None, ()),
    ("1", ()), ([1], ()), ((1,), ()), ({}, ()), (1.0, ()), (True, ((0, 0),)),
    # the two parts
    (1,), (1, (), ()), ((), 1), [1, ()], (1, []), (1, {}), (1, None), (1, ""), (1, 0), (1, True),
    (2, [(0, 1)]), [2, ((0, 1),)], {2: ((0, 1),)}, (2, {(0, 1): True}), (2, {(0, 1)}), (2, "01"),
    # the pairs
    (2, ([0, 1],)), (2, (0, 1)), (2, (0,)), (2, ("01",)), (2, (None,)), (2, ((),)), (2, ((0,),)), (2, ({0: 1},)),
    (2, ((0, 1, 1),)), (3, ((0, 1, 2),)), (2, (((0, 1),),)), (2, ((0, (1,)),)), (2, ((0, [1]),)), (2, (((0,), 1),)),
    (2, ((0, 2),)), (2, ((2, 0),)), (2, ((0, -1),)), (2, ((-1, 0),)), (2, ((0, 10 ** 29),)), (1, ((0, 1),)),
    (2, ((False, True),)), (2, ((0, True),)), (2, ((False, 1),)), (2, ((0, None),)), (2, (("0", "1"),)),
    (2, ((0, 1.0),)), (2, ((0, 1), None)), (2, ((0, 1), [])), (2, ((0, 1), (1, "0"))),
    (6, ((0, 6),)), (6, ((6, 0),)),
    # rising
    (2, ((0, 1), (0, 1))), (3, ((0, 2), (0, 1))), (3, ((1, 2), (0, 2))), (4, ((0, 1), (2, 3), (2, 3))),
    (4, ((2, 3), (0, 1))), (6, ((0, 1), (0, 3), (0, 2))),
    # ahead of itself
    (1, ((0, 0),)), (2, ((1, 1),)), (2, ((0, 1), (1, 1))), (2, ((0, 1), (1, 0))), (6, ((5, 5),)),
    (2, ((0, 0), (0, 1), (1, 0), (1, 1))),
    # what follows is lacking
    (3, ((0, 1), (1, 2))), (3, ((1, 2), (2, 0))), (3, ((0, 1), (2, 0))), (3, ((0, 1), (1, 2), (2, 0))),
    (4, ((0, 1), (0, 2), (1, 2), (2, 3))), (4, ((0, 1), (0, 2), (0, 3), (1, 2), (2, 3))),
    (6, ((4, 5), (5, 0))),
]


# What is no row of the order of three loose things.
NO_ROWS = WHATEVER + [
    (0, 1), (0, 1, 2, 3), (0, 1, 2, 0), (0, 0, 1), (0, 1, 1), (1, 1, 1), (0, 1, 3), (1, 2, 3), (-1, 0, 1), (0, 1, -1),
    [0, 1, 2], "012", {0: 0, 1: 1, 2: 2}, ("0", "1", "2"), (False, True, 2), (0, True, 2), (False, 1, 2), (0, 1, None),
    (0, 1, "2"), (0, 1, [2]), (0, 1, (2,)), ((0,), (1,), (2,)), ([], [], []), ({}, {}, {}), (0, 1, 10 ** 29),
    ((0, 1, 2),), (0, 1, 2.0), {0, 1, 2}, range(3), (0, 1, {}), ((0, 1), 2), (None, None, None),
]


def chain(many):
    """All things in one row."""
    return (many, tuple(itertools.combinations(range(many), 2)))


# Orders of five and six things: none, some and all pairs, and such that run against the numbers.
LARGER = [
    (5, ()),
    chain(5),
    (5, ((0, 1), (0, 3), (2, 1), (2, 3), (4, 3))),
    (5, ((3, 0), (3, 1), (3, 4), (4, 0))),
    (5, ((4, 0), (4, 1), (4, 2), (4, 3))),
    (6, ()),
    (6, ((0, 1),)),
    (6, ((5, 0),)),
    chain(6),
    (6, tuple(sorted((b, a) for a, b in chain(6)[1]))),
    (6, ((0, 1), (0, 2), (1, 2), (3, 4), (3, 5), (4, 5))),
    (6, ((0, 4), (0, 5), (1, 3), (1, 5), (2, 3), (2, 4))),
    (6, ((0, 1), (2, 1), (2, 3), (4, 3), (4, 5))),
    (6, ((0, 3), (0, 4), (0, 5), (1, 3), (1, 4), (1, 5), (2, 3), (2, 4), (2, 5))),
    (6, ((1, 0), (3, 0), (3, 1), (3, 5), (5, 0), (5, 1))),
]


def follows_through(pairs):
    """Tell whether pairs, a set, are an order's: the words of [11], one by one."""
    things = range(6)
    if any((a, a) in pairs for a in things):
        return False
    return not any(
        (a, b) in pairs and (b, c) in pairs and (a, c) not in pairs
        for a in things for b in things for c in things
    )


def relations(many):
    """All rising tuples of pairs of unlike things."""
    every = list(itertools.permutations(range(many), 2))
    for size in range(len(every) + 1):
        yield from itertools.combinations(every, size)


SMALL = [(many, pairs) for many in (1, 2, 3, 4) for pairs in relations(many) if follows_through(set(pairs))]

ORDERS = SMALL + LARGER


def renumbered(order, numbers):
    """The order with other numbers for its things."""
    many, pairs = order
    return (many, tuple(sorted((numbers[a], numbers[b]) for a, b in pairs)))


@functools.cache
def loose_by_words(order):
    many, pairs = order
    return [
        (a, b) for a, b in itertools.combinations(range(many), 2)
        if (a, b) not in pairs and (b, a) not in pairs
    ]


def rows_by_words(order):
    many, pairs = order
    return [
        row for row in itertools.permutations(range(many))
        if all(row.index(a) < row.index(b) for a, b in pairs)
    ]


def span_by_words(order, row):
    place = {thing: at for at, thing in enumerate(row)}
    return max((abs(place[a] - place[b]) for a, b in loose_by_words(order)), default=0)


@functools.cache
def least_span_by_words(order):
    return min(span_by_words(order, row) for row in rows_by_words(order))


def reach_by_words(order, seating):
    return max((abs(seating[a] - seating[b]) for a, b in loose_by_words(order)), default=0)


@functools.cache
def seatings_by_words(order):
    """All seatings of an order, each as (seating, reach)."""
    many, pairs = order
    return tuple(
        (places, reach_by_words(order, places)) for places in itertools.product(range(many), repeat=many)
        if all(places[a] < places[b] for a, b in pairs)
    )


@functools.cache
def least_reach_by_words(order):
    return min(reach for seating, reach in seatings_by_words(order))


@functools.cache
def rings_by_words(order):
    """All rings of an order, each as (ring, steps up, steps aside)."""
    many, pairs = order
    loose = loose_by_words(order)
    rings = []
    for length in range(2, many + 1):
        for ring in itertools.permutations(range(many), length):
            steps = [(ring[at], ring[(at + 1) % length]) for at in range(length)]
            up = sum(step in pairs for step in steps)
            aside = sum(tuple(sorted(step)) in loose for step in steps)
            if up + aside == length:
                rings.append((ring, up, aside))
    return tuple(rings)


def has_refusal(case, refusal, function, *arguments):
    """Expect the refusal, of its class alone, with nothing changed that was handed in."""
    before = copy.deepcopy(arguments) if all_comparable(arguments) else None
    try:
        told = function(*arguments)
    except ValueError as error:
        case.assertIs(type(error), refusal, (function.__name__, arguments))
    else:
        case.fail(f"{function.__name__}{arguments!r} told {told!r}, not {refusal.__name__}")
    if before is not None:
        case.assertEqual(repr(arguments), repr(before))


def all_comparable(arguments):
    return "object at" not in repr(arguments)


def is_fresh_list(case, function, *arguments):
    """Expect a list that is the asker's own, and the same answer after the asker changed it."""
    told = function(*arguments)
    kept = list(told)
    case.assertIs(type(told), list)
    case.assertIsNot(function(*arguments), told)
    told.append("changed")
    told.reverse()
    case.assertEqual(function(*arguments), kept)
    told.clear()
    case.assertEqual(function(*arguments), kept)
