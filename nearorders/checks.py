"""What several modules ask of anything that is handed in."""


def is_whole(thing):
    """Tell whether thing is a whole number."""
    # To Python the truths are ints, to the document they are no numbers.
    return isinstance(thing, int) and not isinstance(thing, bool)


def is_between(thing, low, high):
    """Tell whether thing is a whole number from low to high."""
    return is_whole(thing) and low <= thing <= high


def is_rising(parts):
    """Tell whether each part is greater than the one ahead."""
    return all([one < other for one, other in zip(parts, parts[1:])])
