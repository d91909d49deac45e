"""Orders written as texts, and read again."""

from nearorders.errors import NoText
from nearorders.orders import is_order, need_order

FIGURES = "0123456789"


def order_text(order):
    """Tell the text that writes an order."""
    need_order(order)
    many, pairs = order
    return f"{many}:" + "".join([f" {a}<{b}" for a, b in pairs])


def written_pairs(text):
    """Tell the tuple of the pairs that stand where a text has its pairs, -1 for what is no figure."""
    return tuple([(FIGURES.find(text[at + 1]), FIGURES.find(text[at + 3])) for at in range(2, len(text), 4)])


def read_order(text):
    """Tell of anything the order that it writes, where it is a text that writes one."""
    # Two signs for how many there are, then four for each pair.
    if not isinstance(text, str) or len(text) % 4 != 2:
        raise NoText("this is no text of an order")
    order = (FIGURES.find(text[0]), written_pairs(text))
    # Only figures have been read: written again, the order shows whether the other signs are right.
    if not is_order(order) or order_text(order) != text:
        raise NoText("this text writes no order")
    return order
