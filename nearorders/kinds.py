"""Kinds of orders: levels, chains, fences and crowns."""

from nearorders.checks import is_whole, need_between, rounded_up
from nearorders.errors import NoSizes
from nearorders.orders import MOST_THINGS, ahead_of, are_loose, need_few, need_order

MOST_SIZES = 6


def need_sizes(sizes):
    """Refuse what are no sizes."""
    if not isinstance(sizes, list) or not 1 <= len(sizes) <= MOST_SIZES:
        raise NoSizes("sizes are a list of one to six whole numbers")
    if not all([is_whole(size) and size >= 1 for size in sizes]):
        raise NoSizes("each size is a whole number from 1 on")


def group_numbers(sizes):
    """Tell of each thing, numbered on from size to size, to which size it belongs, as a list."""
    need_sizes(sizes)
    need_few(sum(sizes))
    return [group for group, size in enumerate(sizes) for thing in range(size)]


def levels_order(sizes):
    """Tell the order in which each thing is ahead of all things of later levels."""
    groups = group_numbers(sizes)
    many = len(groups)
    return (many, tuple([(a, b) for a in range(many) for b in range(many) if groups[a] < groups[b]]))


def chains_order(sizes):
    """Tell the order in which each thing is ahead of all later things of its chain."""
    groups = group_numbers(sizes)
    many = len(groups)
    return (many, tuple([(a, b) for a in range(many) for b in range(a + 1, many) if groups[a] == groups[b]]))


def levels_span(sizes):
    """Tell by rule the least span of the order of levels."""
    need_sizes(sizes)
    return max(sizes) - 1


def chains_reach(sizes):
    """Tell by rule the least reach of the order of chains."""
    need_sizes(sizes)
    if len(sizes) == 1:
        return 0
    return rounded_up(sum(sorted(sizes)[-2:]) - 2, 2)


def is_bar(order, a, b, c):
    """Tell whether a is ahead of c, and b loose from both."""
    return (a, c) in order[1] and are_loose(order, a, b) and are_loose(order, b, c)


def levels_of(order):
    """Tell the list of the levels of an order that has levels."""
    # Things of one level have just as many things ahead: all those of the levels ahead of it.
    ahead = [len(ahead_of(order, thing)) for thing in range(order[0])]
    return [tuple([thing for thing in range(order[0]) if ahead[thing] == many]) for many in sorted(set(ahead))]


def levels_or_bar(order):
    """Tell the levels of an order, or the least bar, which shows that it has none."""
    need_order(order)
    things = list(range(order[0]))
    bars = [(a, b, c) for a in things for b in things for c in things if is_bar(order, a, b, c)]
    if bars:
        return ("bar", bars[0])
    return ("levels", levels_of(order))


def fence(many):
    """Tell the order in which each even thing is ahead of its neighbours."""
    need_between(many, 1, MOST_THINGS)
    return (many, tuple([(a, b) for a in range(0, many, 2) for b in (a - 1, a + 1) if 0 <= b < many]))


def crown(half):
    """Tell the order in which each thing of the first half is ahead of all of the other half but its own one."""
    need_between(half, 2, 3)
    return (2 * half, tuple([(i, half + j) for i in range(half) for j in range(half) if i != j]))
