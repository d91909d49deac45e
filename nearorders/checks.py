"""What several modules need: looks at what is handed in, and division rounded up."""

from nearorders.errors import NoNumber


def is_whole(thing):
    """Tell whether thing is a whole number."""
    # To Python the truths are ints, to the document they are no numbers.
    return isinstance(thing, int) and not isinstance(thing, bool)


def is_between(thing, low, high):
    """Tell whether thing is a whole number from low to high."""
    return is_whole(thing) and low <= thing <= high


def need_between(thing, low, high):
    """Refuse what is no whole number from low to high."""
    if not is_between(thing, low, high):
        raise NoNumber(f"this is no whole number from {low} to {high}")


def is_rising(parts):
    """Tell whether each part is greater than the one ahead."""
    return all([one < other for one, other in zip(parts, parts[1:])])


def rounded_up(number, by):
    """Tell a number divided by another one, rounded up."""
    return -(-number // by)
