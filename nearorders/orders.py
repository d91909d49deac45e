"""Orders: tuples (many, pairs) that tell which things go ahead of which."""

from nearorders.checks import is_between, is_rising, need_between
from nearorders.errors import NoOrder, NoPairs, NoThing, Round, TooMany

MOST_THINGS = 6
MOST_APART = 5


def is_thing(many, thing):
    """Tell whether thing is one of so many things."""
    return is_between(thing, 0, many - 1)


def are_things(many, thing):
    """Tell whether thing is a tuple of any number of so many things, alike ones too."""
    return isinstance(thing, tuple) and all([is_thing(many, part) for part in thing])


def is_pair(many, thing):
    """Tell whether thing is a tuple of two of so many things, alike ones too."""
    return are_things(many, thing) and len(thing) == 2


def are_pairs(many, things):
    """Tell whether each of the things is a pair of so many things."""
    return all([is_pair(many, thing) for thing in things])


def has_alike(pairs):
    """Tell whether a pair puts a thing ahead of itself."""
    return any([a == b for a, b in pairs])


def is_complete(pairs):
    """Tell whether all that follows from two of the pairs is among them."""
    return all([(a, c) in pairs for a, b in pairs for middle, c in pairs if b == middle])


def is_order(thing):
    """Tell of anything whether it is an order."""
    if not isinstance(thing, tuple) or len(thing) != 2:
        return False
    many, pairs = thing
    if not is_between(many, 1, MOST_THINGS) or not isinstance(pairs, tuple):
        return False
    # Only pairs of numbers can be compared, so what they are is looked at first.
    if not are_pairs(many, pairs) or not is_rising(pairs):
        return False
    return not has_alike(pairs) and is_complete(pairs)


def need_order(order):
    """Refuse what is no order."""
    if not is_order(order):
        raise NoOrder("this is no order")


def need_thing(order, thing):
    """Refuse what is no order, then what is no thing of it."""
    need_order(order)
    if not is_thing(order[0], thing):
        raise NoThing("this is no thing of the order")


def need_few(many):
    """Refuse more things than an order may have."""
    if many > MOST_THINGS:
        raise TooMany("an order has at most 6 things")


def with_all_that_follows(many, pairs):
    """Tell the rising list of the pairs and all that follow from them."""
    found = {pair: True for pair in pairs}
    # The middle must be the outer loop: then one pass finds ways through any number of things.
    for middle in range(many):
        for a in range(many):
            for b in range(many):
                if (a, middle) in found and (middle, b) in found:
                    found[(a, b)] = True
    return sorted(found)


def order_of(many, pairs):
    """Tell the order of the fewest pairs that has all of these."""
    need_between(many, 1, MOST_THINGS)
    if not isinstance(pairs, list) or not are_pairs(many, pairs):
        raise NoPairs("this is no list of tuples of two things")
    found = with_all_that_follows(many, pairs)
    if has_alike(found):
        raise Round("the pairs lead from a thing to itself")
    return (many, tuple(found))


def ahead_of(order, thing):
    """Tell the rising list of the things ahead of a thing."""
    need_thing(order, thing)
    return [a for a, b in order[1] if b == thing]


def behind(order, thing):
    """Tell the rising list of the things behind a thing."""
    need_thing(order, thing)
    return [b for a, b in order[1] if a == thing]


def are_loose(order, one, other):
    """Tell whether two things of an order are loose."""
    pairs = order[1]
    return one != other and (one, other) not in pairs and (other, one) not in pairs


def loose_from(order, thing):
    """Tell the rising list of the things loose from a thing."""
    need_thing(order, thing)
    return [other for other in range(order[0]) if are_loose(order, thing, other)]


def loose_pairs(order):
    """Tell the rising list of all loose pairs, the lesser thing first."""
    need_order(order)
    many = order[0]
    return [(a, b) for a in range(many) for b in range(a + 1, many) if are_loose(order, a, b)]


def turned(order):
    """Tell the order turned about."""
    need_order(order)
    many, pairs = order
    return (many, tuple(sorted([(b, a) for a, b in pairs])))
