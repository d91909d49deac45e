"""A desk: it has an order, is told lines, and answers each with a text."""

from nearorders.errors import NoDeed, NoLine
from nearorders.orders import MOST_THINGS, loose_pairs, need_thing, order_of
from nearorders.rows import span_of
from nearorders.spans import best_rows, first_best, least_span
from nearorders.texts import FIGURES, order_text


def say_order(order):
    """Answer with the text of the order."""
    return order_text(order)


def say_loose(order):
    """Answer with the loose pairs."""
    return " ".join([f"{a}-{b}" for a, b in loose_pairs(order)]) or "none"


def say_least(order):
    """Answer with the least span."""
    return str(least_span(order))


def say_best(order):
    """Answer with the first best row."""
    return " ".join([str(thing) for thing in first_best(order)])


def say_many(order):
    """Answer with how many best rows there are."""
    return str(len(best_rows(order)))


QUESTIONS = {"order": say_order, "loose": say_loose, "least": say_least, "best": say_best, "many": say_many}


def number_of(word):
    """Tell the number that a single figure writes."""
    if len(word) != 1 or word not in FIGURES:
        raise NoLine("this is no single figure")
    return FIGURES.index(word)


def with_ahead(order, a, b):
    """Tell the order in which a comes ahead of b, too, and all that follows."""
    need_thing(order, a)
    need_thing(order, b)
    many, pairs = order
    return order_of(many, list(pairs) + [(a, b)])


class Desk:
    """A desk with an order, that of one thing at first."""

    def __init__(self):
        self.order = (1, ())
        # The orders ahead of each deed that stands, the latest one last.
        self.earlier = []

    def say(self, line):
        """Answer a line with a text, of anything, or refuse it."""
        if not isinstance(line, str):
            raise NoLine("a line is a text")
        word, *rest = line.split(" ")
        numbers = [number_of(figure) for figure in rest]
        if word in QUESTIONS and not numbers:
            question = QUESTIONS[word]
            return question(self.order)
        if word == "span" and numbers:
            return str(span_of(self.order, tuple(numbers)))
        if word == "things" and len(numbers) == 1 and 1 <= numbers[0] <= MOST_THINGS:
            return self.change_to((numbers[0], ()))
        if word == "ahead" and len(numbers) == 2:
            return self.change_to(with_ahead(self.order, numbers[0], numbers[1]))
        if word == "back" and not numbers:
            return self.undo()
        raise NoLine("a desk knows no such line")

    def change_to(self, order):
        """Do a deed: have another order."""
        self.earlier.append(self.order)
        self.order = order
        return "ok"

    def undo(self):
        """Undo the last deed that stands."""
        if not self.earlier:
            raise NoDeed("no deed stands")
        self.order = self.earlier.pop()
        return "ok"
