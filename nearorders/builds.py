"""Orders put together of two, and an order without one of its things."""

from nearorders.errors import TooFew
from nearorders.orders import need_few, need_order, need_thing
from nearorders.rows import need_row


def need_both(one, other):
    """Refuse what is no order, then two orders of more things together than one may have."""
    need_order(one)
    need_order(other)
    need_few(one[0] + other[0])


def pairs_of_both(one, other):
    """Tell the rising list of the pairs of both orders, the other's things numbered on."""
    first = one[0]
    return list(one[1]) + [(first + a, first + b) for a, b in other[1]]


def stacked(one, other):
    """Tell the order of both with all things of the first ahead of all of the other."""
    need_both(one, other)
    many = one[0] + other[0]
    between = [(a, b) for a in range(one[0]) for b in range(one[0], many)]
    return (many, tuple(sorted(pairs_of_both(one, other) + between)))


def side_by(one, other):
    """Tell the order of both with each thing of the first loose from each of the other."""
    need_both(one, other)
    return (one[0] + other[0], tuple(pairs_of_both(one, other)))


def without(order, thing):
    """Tell the order without one of its things, greater ones less by 1."""
    need_thing(order, thing)
    many, pairs = order
    if many == 1:
        raise TooFew("an order has at least one thing")
    left = [other for other in range(many) if other != thing]
    # What is left keeps its order, so the pairs keep rising under the new numbers.
    return (many - 1, tuple([(left.index(a), left.index(b)) for a, b in pairs if thing not in (a, b)]))


def rows_stacked(one, other, row, more):
    """Tell the row of both stacked that has a row of the first, then one of the other."""
    need_both(one, other)
    need_row(one, row)
    need_row(other, more)
    return row + tuple([one[0] + thing for thing in more])
