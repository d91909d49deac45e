"""Seatings: a place for each thing of an order, where loose things may share one."""

from nearorders.checks import need_between
from nearorders.errors import NoSeating
from nearorders.orders import MOST_APART, are_loose, are_things, loose_pairs, need_order


def is_seating(order, thing):
    """Tell of anything whether it is a seating of an order."""
    need_order(order)
    many, pairs = order
    # Places have the same numbers as things.
    if not are_things(many, thing) or len(thing) != many:
        return False
    return all([thing[a] < thing[b] for a, b in pairs])


def need_seating(order, seating):
    """Refuse what is no order, then what is no seating of it."""
    if not is_seating(order, seating):
        raise NoSeating("this is no seating of the order")


def reach_of(order, seating):
    """Tell the greatest number by which the places of two loose things differ, 0 where none are loose."""
    need_seating(order, seating)
    return max([abs(seating[a] - seating[b]) for a, b in loose_pairs(order)], default=0)


def row_by(order, seating):
    """Tell the row of the things by their places, those of one place by their numbers."""
    need_seating(order, seating)
    return tuple(sorted(range(order[0]), key=lambda thing: (seating[thing], thing)))


def needs_of(order, reach):
    """Tell the list of all (a, b, by) such that b needs the place of a, greater by so much, or one above it."""
    many, pairs = order
    up = [(a, b, 1) for a, b in pairs]
    aside = [(a, b, -reach) for a in range(many) for b in range(many) if are_loose(order, a, b)]
    return up + aside


def raised(places, needs):
    """Tell the list of the places, each raised to what its thing needs by the places of the others."""
    return [
        max([place] + [places[a] + by for a, b, by in needs if b == thing])
        for thing, place in enumerate(places)
    ]


def seated(order, reach):
    """Tell the least seating with so great a reach or less, None where there is none."""
    need_order(order)
    need_between(reach, 0, MOST_APART)
    needs = needs_of(order, reach)
    places = [0] * order[0]
    # No place is ever raised above what any such seating has there: the first that needs no raise is the least.
    while max(places) < order[0]:
        higher = raised(places, needs)
        if higher == places:
            return tuple(places)
        places = higher
    return None


def least_reach(order):
    """Tell the least reach that any seating of an order has."""
    # The places of a row are a seating, so there is one with some reach up to the greatest.
    return min([reach for reach in range(MOST_APART + 1) if seated(order, reach) is not None])


def least_seating(order):
    """Tell the least seating that has the least reach."""
    return seated(order, least_reach(order))
