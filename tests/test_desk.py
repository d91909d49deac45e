"""Promise [102], and [2], [3] where they bear on it."""

import random
import unittest

from nearorders.desk import Desk
from nearorders.errors import NearError, NoDeed, NoLine, NoRow, NoThing, Round
from nearorders.orders import loose_pairs
from nearorders.spans import best_rows, least_span
from nearorders.texts import order_text
from tests.helper import ORDERS, WHATEVER, has_refusal, loose_by_words, rows_by_words, span_by_words

QUESTIONS = ["order", "loose", "least", "best", "many"]

NO_LINES = [
    # words lacking
    "", "things", "ahead", "ahead 0", "span",
    # words more
    "things 3 1", "ahead 0 1 2", "back 1", "back back", "order 1", "order order", "loose 0", "least 0", "best 0",
    "many 0", "things 3 ok", "ahead 0 1 ok", "order loose", "least 1 2", "many 3 4",
    # blanks
    " ", "  ", " order", "order ", "  order", "order  ", " back", "back ", "things  3", "things 3 ", " things 3",
    "things ", "ahead  0 1", "ahead 0  1", "ahead 0 1 ", " ahead 0 1", "ahead ", "ahead 0 ", "span ", "span  0",
    "span 0 ", " span 0", "span 0  1", "span 0 1 ", "things\t3", "ahead\t0 1", "ahead 0\t1", "span\t0", "span 0\t1",
    "order\n", "\norder", "back\n", "things 3\n", "ahead 0 1\n", "span 0\n", "span 0\n1", "order\r\n", "things\n3",
    "things\u00a03", "span 0\u00a01", "order\0",
    # words written otherwise
    "Order", "ORDER", "orders", "orde", "Things 3", "THINGS 3", "thing 3", "Ahead 0 1", "AHEAD 0 1", "Back", "undo",
    "Loose", "Least", "Best", "Many", "Span 0", "SPAN 0", "spans 0", "span_0", "things3", "ahead01", "ahead 01",
    "span01", "order;", "order.", "'order'", "ok", "none", "help", "say order", "things three", "behind 0 1",
    "0 ahead 1", "3 things", "3", "0 1", "3: 0<1", "ahead 0<1", "ahead 0,1", "ahead 0-1", "span 0,1", "span (0, 1)",
    "\uff4frder",
    # numbers that are no single figures
    "things 10", "things 03", "things 3.0", "things +3", "things -1", "things x", "things \u0663", "things \uff13",
    "things \u00b3", "things 1_", "things 33", "ahead 00 1", "ahead 0 01", "ahead 0 10", "ahead 10 0", "ahead +0 1",
    "ahead 0 +1", "ahead -1 0", "ahead 0 -1", "ahead a b", "ahead 0 b", "ahead A B", "ahead \u0660 1",
    "ahead 0 \u0661", "span 00", "span 01", "span 0 01", "span 10", "span +0", "span -0", "span a", "span 0 a",
    "span \u0660", "span ..", "span A", "span 012", "ahead 012", "things 12", "things 1000000", "span 0x0",
    "span 0 1 2 03",
    # so many things there are not
    "things 0", "things 7", "things 8", "things 9",
]


def after(*lines):
    """A desk that was told these deeds."""
    desk = Desk()
    for line in lines:
        assert desk.say(line) == "ok", line
    return desk


def with_order(order):
    """A desk that has this order."""
    many, pairs = order
    return after(f"things {many}", *[f"ahead {a} {b}" for a, b in pairs])


def answers(desk):
    """What a desk tells of its order."""
    return [desk.say(line) for line in QUESTIONS]


class Model:
    """What [102] says of deeds, by its words: the order as a set of pairs, and all that it was."""

    def __init__(self):
        self.many, self.pairs, self.past = 1, frozenset(), []

    def told(self, line):
        """The answer to a deed, or the class of its refusal."""
        word, *numbers = line.split(" ")
        if word == "back":
            if not self.past:
                return NoDeed
            self.many, self.pairs = self.past.pop()
            return "ok"
        if word == "things":
            return self.becomes(int(numbers[0]), frozenset())
        a, b = int(numbers[0]), int(numbers[1])
        if max(a, b) >= self.many:
            return NoThing
        if a == b or (b, a) in self.pairs:
            return Round
        up = {a} | {low for low in range(6) if (low, a) in self.pairs}
        down = {b} | {high for high in range(6) if (b, high) in self.pairs}
        return self.becomes(self.many, self.pairs | {(low, high) for low in up for high in down})

    def becomes(self, many, pairs):
        self.past.append((self.many, self.pairs))
        self.many, self.pairs = many, pairs
        return "ok"

    def order(self):
        return (self.many, tuple(sorted(self.pairs)))


class Deeds(unittest.TestCase):
    def test_one_thing_at_first(self):
        self.assertEqual(answers(Desk()), ["1:", "none", "0", "0", "1"])

    def test_things(self):
        for many in range(1, 7):
            desk = Desk()
            self.assertEqual(desk.say(f"things {many}"), "ok")
            self.assertEqual(desk.say("order"), f"{many}:")
            self.assertEqual(desk.say("least"), str(many - 1))

    def test_things_again_are_all_loose(self):
        desk = after("things 3", "ahead 0 1", "things 3")
        self.assertEqual(desk.say("order"), "3:")
        self.assertEqual(after("things 4", "ahead 0 1", "things 2").say("order"), "2:")

    def test_ahead(self):
        desk = after("things 3")
        self.assertEqual(desk.say("ahead 2 0"), "ok")
        self.assertEqual(desk.say("order"), "3: 2<0")
        self.assertEqual(desk.say("ahead 2 1"), "ok")
        self.assertEqual(desk.say("order"), "3: 2<0 2<1")

    def test_ahead_with_all_that_follows(self):
        desk = after("things 4", "ahead 0 1", "ahead 2 3")
        self.assertEqual(desk.say("order"), "4: 0<1 2<3")
        self.assertEqual(desk.say("ahead 1 2"), "ok")
        self.assertEqual(desk.say("order"), "4: 0<1 0<2 0<3 1<2 1<3 2<3")
        desk = after("things 6", "ahead 4 5", "ahead 5 0", "ahead 1 4")
        self.assertEqual(desk.say("order"), "6: 1<0 1<4 1<5 4<0 4<5 5<0")

    def test_no_thing(self):
        desk = after("things 3", "ahead 0 1")
        for line in ["ahead 0 3", "ahead 3 0", "ahead 3 3", "ahead 9 0", "ahead 0 9", "ahead 4 5", "ahead 2 6"]:
            has_refusal(self, NoThing, desk.say, line)
        has_refusal(self, NoThing, Desk().say, "ahead 0 1")
        has_refusal(self, NoThing, Desk().say, "ahead 1 0")
        has_refusal(self, NoThing, after("things 6").say, "ahead 0 6")

    def test_round(self):
        desk = after("things 4", "ahead 0 1", "ahead 1 2")
        for line in ["ahead 0 0", "ahead 3 3", "ahead 1 0", "ahead 2 1", "ahead 2 0"]:
            has_refusal(self, Round, desk.say, line)
        has_refusal(self, Round, Desk().say, "ahead 0 0")

    def test_no_thing_ahead_of_round(self):
        desk = after("things 2", "ahead 0 1")
        for figure in "23456789":
            has_refusal(self, NoThing, desk.say, f"ahead {figure} {figure}")
        has_refusal(self, Round, desk.say, "ahead 1 1")
        for figure in "123456789":
            has_refusal(self, NoThing, Desk().say, f"ahead {figure} {figure}")


class Back(unittest.TestCase):
    def test_after_each_kind_of_deed(self):
        desk = after("things 3")
        self.assertEqual(desk.say("back"), "ok")
        self.assertEqual(desk.say("order"), "1:")
        desk = after("things 3", "ahead 0 1", "ahead 1 2")
        self.assertEqual(desk.say("back"), "ok")
        self.assertEqual(desk.say("order"), "3: 0<1")
        desk = after("things 3", "ahead 0 1", "ahead 1 2", "things 5", "back")
        self.assertEqual(desk.say("order"), "3: 0<1 0<2 1<2")

    def test_several_times_until_no_deed(self):
        desk = after("things 4", "ahead 0 1", "ahead 2 3", "ahead 1 2", "things 6", "ahead 5 0")
        for text in [
            "6:", "4: 0<1 0<2 0<3 1<2 1<3 2<3", "4: 0<1 2<3", "4: 0<1", "4:", "1:",
        ]:
            self.assertEqual(desk.say("back"), "ok")
            self.assertEqual(desk.say("order"), text)
        for again in range(3):
            has_refusal(self, NoDeed, desk.say, "back")
            self.assertEqual(desk.say("order"), "1:")
        self.assertEqual(desk.say("things 2"), "ok")
        self.assertEqual(desk.say("back"), "ok")
        has_refusal(self, NoDeed, desk.say, "back")

    def test_none_stands_at_first(self):
        has_refusal(self, NoDeed, Desk().say, "back")

    def test_back_is_no_deed_itself(self):
        desk = after("things 3", "ahead 0 1", "back", "back")
        self.assertEqual(desk.say("order"), "1:")
        has_refusal(self, NoDeed, desk.say, "back")
        desk = after("things 3", "ahead 0 1", "back", "ahead 1 0", "back", "back")
        self.assertEqual(desk.say("order"), "1:")

    def test_a_deed_that_tells_nothing_new_is_one(self):
        desk = after("things 3", "ahead 0 1", "ahead 0 1", "back")
        self.assertEqual(desk.say("order"), "3: 0<1")
        self.assertEqual(desk.say("back"), "ok")
        self.assertEqual(desk.say("order"), "3:")
        desk = after("things 1", "things 1", "back", "back")
        has_refusal(self, NoDeed, desk.say, "back")
        desk = after("things 3", "ahead 0 1", "ahead 1 2", "ahead 0 2", "back")
        self.assertEqual(desk.say("order"), "3: 0<1 0<2 1<2")

    def test_questions_are_no_deeds(self):
        desk = after("things 3", "ahead 0 1")
        answers(desk)
        desk.say("span 0 1 2")
        self.assertEqual(desk.say("back"), "ok")
        self.assertEqual(desk.say("order"), "3:")

    def test_what_was_refused_is_no_deed_and_changes_nothing(self):
        desk = after("things 3", "ahead 0 1")
        before = answers(desk)
        for refusal, line in [
            (NoThing, "ahead 0 3"), (Round, "ahead 1 0"), (Round, "ahead 2 2"), (NoRow, "span 1 0 2"),
            (NoRow, "span 0"), (NoLine, "things 7"), (NoLine, "things 0"), (NoLine, "back 1"), (NoLine, "nothing"),
            (NoLine, None),
        ]:
            has_refusal(self, refusal, desk.say, line)
            self.assertEqual(answers(desk), before)
        for text in ["3:", "1:"]:
            self.assertEqual(desk.say("back"), "ok")
            self.assertEqual(desk.say("order"), text)
        has_refusal(self, NoDeed, desk.say, "back")


class Questions(unittest.TestCase):
    def test_some(self):
        desk = after("things 4", "ahead 0 1", "ahead 2 3")
        self.assertEqual(answers(desk), ["4: 0<1 2<3", "0-2 0-3 1-2 1-3", "2", "0 2 3 1", "2"])
        self.assertEqual(after("things 2").say("loose"), "0-1")
        self.assertEqual(after("things 2", "ahead 1 0").say("loose"), "none")
        self.assertEqual(after("things 2", "ahead 1 0").say("best"), "1 0")
        self.assertEqual(answers(after("things 6"))[2:], ["5", "0 1 2 3 4 5", "720"])

    def test_all_by_the_words(self):
        for order in ORDERS:
            desk = with_order(order)
            rows = rows_by_words(order)
            every = [span_by_words(order, row) for row in rows]
            best = [row for row, span in zip(rows, every) if span == min(every)]
            self.assertEqual(answers(desk), [
                order_text(order),
                " ".join(f"{a}-{b}" for a, b in loose_by_words(order)) or "none",
                str(min(every)),
                " ".join(str(thing) for thing in best[0]),
                str(len(best)),
            ])
            for row, span in list(zip(rows, every))[::7]:
                self.assertEqual(desk.say("span " + " ".join(str(thing) for thing in row)), str(span))

    def test_all_answers_are_texts(self):
        desk = after("things 3", "ahead 0 1")
        for line in QUESTIONS + ["span 0 1 2", "things 3", "ahead 0 1", "back"]:
            self.assertIs(type(desk.say(line)), str, line)

    def test_the_same_when_asked_again(self):
        desk = after("things 4", "ahead 0 1")
        for line in QUESTIONS + ["span 0 1 2 3"]:
            self.assertEqual(desk.say(line), desk.say(line))

    def test_span_of_a_row(self):
        desk = after("things 3", "ahead 2 0")
        self.assertEqual(desk.say("span 1 2 0"), "2")
        self.assertEqual(desk.say("span 2 1 0"), "1")
        self.assertEqual(Desk().say("span 0"), "0")
        self.assertEqual(after("things 6").say("span 5 4 3 2 1 0"), "5")
        self.assertEqual(after("things 2", "ahead 0 1").say("span 0 1"), "0")

    def test_span_of_what_is_no_row(self):
        desk = after("things 3", "ahead 2 0")
        for line in [
            "span 0", "span 2 0", "span 0 1 2", "span 0 2 1", "span 1 0 2", "span 2 0 0", "span 2 2 0", "span 2 0 1 1",
            "span 2 0 1 3", "span 9", "span 2 0 9", "span 3 0 1", "span 0 1 2 3 4 5 6 7 8 9", "span 0" + " 0" * 100,
        ]:
            has_refusal(self, NoRow, desk.say, line)
        has_refusal(self, NoRow, Desk().say, "span 1")
        has_refusal(self, NoRow, Desk().say, "span 0 0")

    def test_no_answer_stands_longer_than_the_order(self):
        desk = after("things 3")
        self.assertEqual((desk.say("many"), desk.say("span 0 1 2")), ("6", "2"))
        desk.say("ahead 0 1")
        desk.say("ahead 1 2")
        self.assertEqual((desk.say("many"), desk.say("span 0 1 2")), ("1", "0"))
        desk.say("back")
        self.assertEqual((desk.say("many"), desk.say("span 0 1 2")), ("1", "2"))


class NoLines(unittest.TestCase):
    def test_lines_that_are_none(self):
        for desk in (Desk(), after("things 3", "ahead 0 1")):
            before = answers(desk)
            for line in NO_LINES:
                has_refusal(self, NoLine, desk.say, line)
            self.assertEqual(answers(desk), before)

    def test_anything(self):
        desk = after("things 3", "ahead 0 1")
        before = answers(desk)
        for line in WHATEVER + [b"order", ["order"], ("order",), {"order": 1}, ["things", "3"], ("ahead", "0", "1"), 3]:
            has_refusal(self, NoLine, desk.say, line)
        self.assertEqual(answers(desk), before)
        self.assertEqual(desk.say("back"), "ok")
        self.assertEqual(desk.say("order"), "3:")

    def test_they_leave_back_as_it_was(self):
        desk = after("things 3", "ahead 0 1")
        for line in NO_LINES:
            has_refusal(self, NoLine, desk.say, line)
        self.assertEqual(desk.say("back"), "ok")
        self.assertEqual(desk.say("back"), "ok")
        has_refusal(self, NoDeed, desk.say, "back")


class SeveralDesks(unittest.TestCase):
    def test_two_beside_each_other(self):
        one, other = Desk(), Desk()
        one.say("things 3")
        self.assertEqual(other.say("order"), "1:")
        has_refusal(self, NoDeed, other.say, "back")
        other.say("things 2")
        one.say("ahead 0 2")
        other.say("ahead 1 0")
        self.assertEqual((one.say("order"), other.say("order")), ("3: 0<2", "2: 1<0"))
        one.say("back")
        self.assertEqual((one.say("order"), other.say("order")), ("3:", "2: 1<0"))
        other.say("back")
        other.say("back")
        has_refusal(self, NoDeed, other.say, "back")
        self.assertEqual(one.say("order"), "3:")
        self.assertEqual(Desk().say("order"), "1:")

    def test_long_ways_by_the_words(self):
        chance = random.Random(102)
        for way in range(30):
            desks = [(Desk(), Model()), (Desk(), Model())]
            for step in range(60):
                desk, model = chance.choice(desks)
                line = chance.choice(
                    ["back", f"things {chance.randint(1, 6)}"]
                    + [f"ahead {chance.randint(0, 6)} {chance.randint(0, 6)}" for _ in range(6)]
                )
                try:
                    told = desk.say(line)
                except NearError as error:
                    told = type(error)
                self.assertEqual(told, model.told(line), line)
                for each, its_model in desks:
                    self.assertEqual(each.say("order"), order_text(its_model.order()))
            for desk, model in desks:
                order = model.order()
                pairs = " ".join(f"{a}-{b}" for a, b in loose_pairs(order)) or "none"
                best = best_rows(order)
                row = " ".join(str(thing) for thing in best[0])
                self.assertEqual(answers(desk)[1:], [pairs, str(least_span(order)), row, str(len(best))])


if __name__ == "__main__":
    unittest.main()
