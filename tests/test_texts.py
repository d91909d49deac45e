"""Promise [101], and [2], [3] where they bear on it."""

import itertools
import re
import unittest

from nearorders.errors import NoOrder, NoText
from nearorders.orders import is_order
from nearorders.texts import order_text, read_order
from tests.helper import NO_ORDERS, ORDERS, SMALL, WHATEVER, chain, has_refusal

SIGNS = list("0123679:<> -+,a\n\t\0\u0661\u00a0")


def text_by_words(order):
    many, pairs = order
    return str(many) + ":" + "".join(" " + str(a) + "<" + str(b) for a, b in pairs)


def order_by_words(text):
    """The order that a text writes, None where it writes none."""
    if not re.fullmatch("[1-6]:( [0-5]<[0-5])*", text):
        return None
    many = int(text[0])
    pairs = tuple((int(pair[0]), int(pair[2])) for pair in text.split(" ")[1:])
    every = list(itertools.permutations(range(many), 2))
    follows = all((a, c) in pairs for a, b in pairs for middle, c in pairs if b == middle)
    if not follows or not all(pair in every for pair in pairs) or list(pairs) != sorted(set(pairs)):
        return None
    return (many, pairs)


def spoiled(text):
    """Texts that differ from a text by a sign out, in, another one, or two exchanged."""
    for at in range(len(text) + 1):
        for sign in SIGNS:
            yield text[:at] + sign + text[at:]
            yield text[:at] + sign + text[at + 1:]
        yield text[:at] + text[at + 1:]
        for other in range(at + 1, len(text)):
            yield text[:at] + text[other] + text[at + 1:other] + text[at] + text[other + 1:]


class Texts(unittest.TestCase):
    def test_some(self):
        self.assertEqual(order_text((1, ())), "1:")
        self.assertEqual(order_text((6, ())), "6:")
        self.assertEqual(order_text((3, ((0, 1), (0, 2)))), "3: 0<1 0<2")
        self.assertEqual(order_text((2, ((1, 0),))), "2: 1<0")
        self.assertEqual(order_text(chain(4)), "4: 0<1 0<2 0<3 1<2 1<3 2<3")
        self.assertEqual(order_text((6, ((5, 0),))), "6: 5<0")

    def test_some_read(self):
        self.assertEqual(read_order("1:"), (1, ()))
        self.assertEqual(read_order("6:"), (6, ()))
        self.assertEqual(read_order("3: 0<1 0<2"), (3, ((0, 1), (0, 2))))
        self.assertEqual(read_order("2: 1<0"), (2, ((1, 0),)))
        self.assertEqual(read_order("6: 4<5"), (6, ((4, 5),)))

    def test_all_written_and_read_again(self):
        for order in ORDERS:
            text = order_text(order)
            self.assertIs(type(text), str)
            self.assertEqual(text, text_by_words(order))
            self.assertEqual(read_order(text), order)
            self.assertIs(is_order(read_order(text)), True)

    def test_no_order(self):
        for order in NO_ORDERS:
            has_refusal(self, NoOrder, order_text, order)


class NotWrittenSo(unittest.TestCase):
    def test_spoiled_texts(self):
        for order in SMALL[:23] + SMALL[23::19] + [(5, ((3, 0), (3, 1), (3, 4), (4, 0))), (6, ()), (6, ((0, 1),))]:
            for text in spoiled(order_text(order)):
                meant = order_by_words(text)
                if meant is None:
                    has_refusal(self, NoText, read_order, text)
                else:
                    self.assertEqual(read_order(text), meant, text)

    def test_blanks(self):
        for text in [
            " 3: 0<1", "3: 0<1 ", " 3:", "3: ", "3 :", "3:  0<1", "3: 0<1  0<2", "3:0<1", "3: 0<10<2", "3: 0 <1",
            "3: 0< 1", "3: 0<1\t0<2", "3:\t0<1", "3:\n0<1", "3:\u00a00<1", "3:     ", "3: 0<1    ", "    3: 0<1",
        ]:
            has_refusal(self, NoText, read_order, text)

    def test_line_feeds(self):
        for text in ["3:\n", "3: 0<1\n", "\n3:", "3: 0<1\r\n", "3: 0<1\r", "3:\n\n\n\n", "3: 0<1\n\n\n\n"]:
            has_refusal(self, NoText, read_order, text)

    def test_how_many(self):
        for text in [
            "0:", "7:", "8:", "9:", "10:", "01:", "+3:", "-1:", "a:", ":", "3", "12", "::", "?:", "3;", "3.", "33",
        ]:
            has_refusal(self, NoText, read_order, text)
            has_refusal(self, NoText, read_order, text + " 0<1")

    def test_pairs_that_are_no_order(self):
        for text in [
            "3: 0<2 0<1", "3: 1<2 0<2", "3: 0<1 0<1", "3: 0<1 0<2 0<2", "2: 0<0", "2: 0<1 1<0", "3: 0<1 1<2",
            "3: 1<2 2<0", "3: 0<3", "3: 3<0", "1: 0<1", "6: 0<6", "6: 9<0", "4: 0<1 0<2 1<2 2<3", "1: 0<0",
        ]:
            has_refusal(self, NoText, read_order, text)

    def test_figures_written_otherwise(self):
        for text in [
            "3: 00<1", "3: 0<01", "3: +0<1", "3: 0<+1", "3: 0<1.0", "3: -0<1", "3: 0<0x1", "3: 0<1_", "03: 0<1",
            "\u0663: 0<1", "3: \u0660<1", "3: 0<\u0661", "3: 0<\u00b9", "3: 0<\uff11", "\u00b3:", "\uff13:", "\u2462:",
            "3: zero<one", "iii:", "3: a<b",
        ]:
            has_refusal(self, NoText, read_order, text)

    def test_other_signs(self):
        for text in [
            "3: 1>0", "3: 0-1", "3: 0,1", "3: 0<1,0<2", "3: 0<1;0<2", "3: 0\uff1c1", "3\uff1a 0<1", "3: 0<", "3: <1",
            "3: 0", "3: 01", "3:  <1", "3: 0< ", "3:    ", "3: 0<1<2", "3: 0<1 0", "3: 0<1 0<", "(3, ())", "3: ()",
        ]:
            has_refusal(self, NoText, read_order, text)

    def test_the_empty_text_and_long_ones(self):
        for text in ["", " ", "\n", "ab", "abcdef", "2:" + " 0<1" * 1000, "6:" * 1001, "6: " + "0<1 " * 999, "9" * 30]:
            has_refusal(self, NoText, read_order, text)

    def test_anything(self):
        for thing in WHATEVER:
            has_refusal(self, NoText, read_order, thing)
        for thing in [b"3:", ["3:"], ("3:",), {"3:": 1}, ["3", ":"], (3, ()), 3, {"3:"}, (1, ()), ("3", ":")]:
            has_refusal(self, NoText, read_order, thing)


if __name__ == "__main__":
    unittest.main()
