"""The least span of an order, and the rows that have it."""

from nearorders.orders import loose_pairs
from nearorders.rows import all_rows, greatest_apart


def rows_with_spans(order):
    """Tell the list of (row, span) for all rows of an order, by rising rows."""
    # The loose pairs are the same for all rows: found once, they need no check for each row.
    pairs = loose_pairs(order)
    return [(row, greatest_apart(row, pairs)) for row in all_rows(order)]


def least_span(order):
    """Tell the least span that any row of an order has."""
    return min([span for row, span in rows_with_spans(order)])


def spans(order):
    """Tell how many rows have the span k, at place k of a list up to the greatest span."""
    found = [span for row, span in rows_with_spans(order)]
    return [found.count(k) for k in range(max(found) + 1)]


def best_rows(order):
    """Tell the rising list of all rows that have the least span."""
    found = rows_with_spans(order)
    least = min([span for row, span in found])
    return [row for row, span in found if span == least]


def first_best(order):
    """Tell the first best row."""
    return best_rows(order)[0]
