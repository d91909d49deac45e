"""All small orders, how many there are by their numbers, and which of them are alike."""

from nearorders.checks import need_between
from nearorders.orders import is_order, need_order
from nearorders.rows import all_rows
from nearorders.seatings import least_reach
from nearorders.spans import least_span

MOST_SMALL = 4


def with_one_more(order):
    """Tell the list of all orders of one thing more that tell the same of the things of this one."""
    many, pairs = order
    found = [pairs]
    for thing in range(many):
        found = [more + new for more in found for new in ((), ((thing, many),), ((many, thing),))]
    larger = [(many + 1, tuple(sorted(more))) for more in found]
    return [each for each in larger if is_order(each)]


def all_orders(many):
    """Tell the rising list of all orders of so many things."""
    need_between(many, 1, MOST_SMALL)
    orders = [(1, ())]
    # Without its last thing an order is an order too, so each comes up here, and but once.
    for more in range(1, many):
        orders = [larger for order in orders for larger in with_one_more(order)]
    return sorted(orders)


def counted(many):
    """Tell the rising list of (span, reach, orders): how many orders have that least span and least reach."""
    found = [(least_span(order), least_reach(order)) for order in all_orders(many)]
    return [(span, reach, found.count((span, reach))) for span, reach in sorted(set(found))]


def least_alike(order):
    """Tell the first of all orders that are alike with an order."""
    need_order(order)
    many, pairs = order
    # The rows of things that are all loose are all ways to number them.
    numberings = all_rows((many, ()))
    return (many, min([tuple(sorted([(numbers[a], numbers[b]) for a, b in pairs])) for numbers in numberings]))


def kinds_with_many(many):
    """Tell the rising list of (first, orders): each first of orders that are alike, and how many these are."""
    firsts = [least_alike(order) for order in all_orders(many)]
    return [(first, firsts.count(first)) for first in sorted(set(firsts))]


def kinds_of(many):
    """Tell the rising list of the first ones of all orders of so many things that are alike."""
    return [first for first, orders in kinds_with_many(many)]


def kinds_many(many):
    """Tell how many orders are alike with each of the first ones, in their order."""
    return [orders for first, orders in kinds_with_many(many)]
