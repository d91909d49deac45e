"""Papers: tuples that show to anyone that no row of an order has a span of k or less."""

from nearorders.checks import is_between, is_rising, need_between
from nearorders.orders import MOST_APART, are_loose, are_things, is_thing, need_order
from nearorders.rows import may_come


def need_order_and_span(order, k):
    """Refuse what is no order, then what is no span that a paper can be for."""
    need_order(order)
    need_between(k, 0, MOST_APART)


def within_steps(order, thing, far):
    """Tell the list of the things to which at most far steps aside lead, the thing itself among them."""
    found = [thing]
    for step in range(far):
        found = [
            other for other in range(order[0])
            if other in found or any([are_loose(order, one, other) for one in found])
        ]
    return found


def are_joined(order, things, far):
    """Tell whether each two of the things are joined by at most far steps aside."""
    return all([b in within_steps(order, a, far) for a in things for b in things])


def is_spread(order, k, things, far):
    """Tell whether the last two parts of a "spread" are right."""
    if not are_things(order[0], things) or not is_rising(things) or not is_between(far, 1, MOST_APART):
        return False
    return len(things) - 1 > k * far and are_joined(order, things, far)


def is_far(order, k, begun, a, b):
    """Tell whether the last two parts of a "far" are right where a row is begun."""
    many = order[0]
    # Whether a is a thing is looked at first: to Python a truth would stand among the things too.
    if not is_thing(many, a) or not is_thing(many, b) or a not in begun or b in begun:
        return False
    return are_loose(order, a, b) and len(begun) - 1 - begun.index(a) >= k


def is_next(order, k, begun, papers):
    """Tell whether the last part of a "next" is right where a row is begun."""
    things = may_come(order, begun)
    if not isinstance(papers, tuple) or len(papers) != len(things) or not things:
        return False
    return all([is_paper(order, k, begun + (thing,), paper) for thing, paper in zip(things, papers)])


def is_paper(order, k, begun, thing):
    """Tell of anything whether it is a paper where a row is begun."""
    if not isinstance(thing, tuple):
        return False
    if len(thing) == 3 and thing[0] == "spread":
        return is_spread(order, k, thing[1], thing[2])
    if len(thing) == 3 and thing[0] == "far":
        return is_far(order, k, begun, thing[1], thing[2])
    return len(thing) == 2 and thing[0] == "next" and is_next(order, k, begun, thing[1])


def paper_shows(order, k, thing):
    """Tell of anything whether it is a paper that no row of an order has a span of k or less."""
    need_order_and_span(order, k)
    return is_paper(order, k, (), thing)


def some_far(order, k, begun):
    """Tell a "far" where a row is begun, None where there was none on the way and is none now."""
    if len(begun) <= k:
        return None
    # A thing further back had k others behind it already when less of the row was begun.
    a = begun[-1 - k]
    for b in range(order[0]):
        if b not in begun and are_loose(order, a, b):
            return ("far", a, b)
    return None


def some_paper(order, k, begun):
    """Tell a paper where a row is begun, None where it is the beginning of a row with a span of k or less."""
    far = some_far(order, k, begun)
    # With no "far" at any beginning of it, a row has no two loose things more than k places apart.
    if far is not None or len(begun) == order[0]:
        return far
    papers = []
    for thing in may_come(order, begun):
        paper = some_paper(order, k, begun + (thing,))
        if paper is None:
            return None
        papers.append(paper)
    return ("next", tuple(papers))


def paper_for(order, k):
    """Tell some paper that no row of an order has a span of k or less, None where a row has."""
    need_order_and_span(order, k)
    return some_paper(order, k, ())
