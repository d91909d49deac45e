"""Rows: all things of an order one behind the other, and how far apart loose ones stand."""

from nearorders.errors import NoRow
from nearorders.orders import are_things, loose_pairs, need_order


def is_row(order, thing):
    """Tell of anything whether it is a row of an order."""
    need_order(order)
    many, pairs = order
    if not are_things(many, thing) or len(thing) != many or len(set(thing)) != many:
        return False
    return all([thing.index(a) < thing.index(b) for a, b in pairs])


def need_row(order, row):
    """Refuse what is no order, then what is no row of it."""
    if not is_row(order, row):
        raise NoRow("this is no row of the order")


def may_come(order, begun):
    """Tell the rising list of the things that may come next where a row is begun."""
    many, pairs = order
    waiting = [b for a, b in pairs if a not in begun]
    return [thing for thing in range(many) if thing not in begun and thing not in waiting]


def all_rows(order):
    """Tell the rising list of all rows of an order."""
    need_order(order)
    rows = [()]
    # Rising rows, each drawn out by rising things, stay rising.
    for place in range(order[0]):
        rows = [begun + (thing,) for begun in rows for thing in may_come(order, begun)]
    return rows


def rows_many(order):
    """Tell how many rows an order has."""
    return len(all_rows(order))


def apart(row, pair):
    """Tell by how many places the two things of a pair stand apart in a row."""
    return abs(row.index(pair[0]) - row.index(pair[1]))


def greatest_apart(row, pairs):
    """Tell by how many places any of the pairs stands apart in a row at most, 0 of no pairs."""
    return max([apart(row, pair) for pair in pairs], default=0)


def span_of(order, row):
    """Tell the span of a row of an order."""
    need_row(order, row)
    return greatest_apart(row, loose_pairs(order))


def farthest(order, row):
    """Tell the first loose pair that stands as far apart as the span, None where none are loose."""
    need_row(order, row)
    pairs = loose_pairs(order)
    span = greatest_apart(row, pairs)
    for pair in pairs:
        if apart(row, pair) == span:
            return pair
    return None
