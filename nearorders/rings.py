"""Rings of steps up and aside, which show how far any seating of an order must reach."""

from nearorders.checks import rounded_up
from nearorders.errors import NoRing
from nearorders.orders import are_loose, are_things, loose_pairs, need_order
from nearorders.seatings import is_seating, least_seating, reach_of


def may_step(order, one, other):
    """Tell whether there is a step up or aside from one thing to the other."""
    return (one, other) in order[1] or are_loose(order, one, other)


def steps_of(ring):
    """Tell the list of the steps of a ring, the one from the last thing to the first too."""
    return list(zip(ring, ring[1:] + ring[:1]))


def is_ring(order, thing):
    """Tell of anything whether it is a ring of an order."""
    need_order(order)
    if not are_things(order[0], thing) or len(thing) < 2 or len(set(thing)) != len(thing):
        return False
    return all([may_step(order, one, other) for one, other in steps_of(thing)])


def shown_by(order, ring):
    """Tell the number that a ring shows."""
    up = len([step for step in steps_of(ring) if step in order[1]])
    # Steps up alone lead to no thing again, so there are steps aside to divide by.
    return rounded_up(up, len(ring) - up)


def ring_shows(order, ring):
    """Tell the number that a ring of an order shows: no seating has a lesser reach."""
    if not is_ring(order, ring):
        raise NoRing("this is no ring of the order")
    return shown_by(order, ring)


def all_rings(order):
    """Tell the list of all rings that begin with their least thing, the short ones first."""
    many = order[0]
    rings = []
    ways = [(thing,) for thing in range(many)]
    # A ring shows the same wherever it begins, so those that begin elsewhere are left out.
    for length in range(2, many + 1):
        ways = [
            way + (thing,) for way in ways for thing in range(way[0] + 1, many)
            if thing not in way and may_step(order, way[-1], thing)
        ]
        rings.extend([way for way in ways if may_step(order, way[-1], way[0])])
    return rings


def some_ring(order):
    """Tell some ring that shows the least reach of an order, None where no two things are loose."""
    need_order(order)
    # The least reach is no greater than what some ring shows, so the ring that shows most shows it.
    return max(all_rings(order), key=lambda ring: shown_by(order, ring), default=None)


def is_reach_paper(order, thing):
    """Tell of anything whether it is a seating of an order and a ring that shows its reach."""
    need_order(order)
    if not isinstance(thing, tuple) or len(thing) != 2 or not is_seating(order, thing[0]):
        return False
    seating, ring = thing
    if not loose_pairs(order):
        return ring is None
    return is_ring(order, ring) and shown_by(order, ring) == reach_of(order, seating)


def reach_paper(order):
    """Tell some reach paper of an order."""
    return (least_seating(order), some_ring(order))
