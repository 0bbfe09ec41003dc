"""Points 2, 3, 5 and 23: the texts of orders."""

import re
import unittest
from itertools import permutations, product

from evenclimb.climbs import steps
from evenclimb.errors import NoCount, NoText, NoThing
from evenclimb.orders import Order
from evenclimb.texts import order_text, read_order
from helper import (FORTY_FIGURES, answer, even_orders, fields_order, flat, four_fold, mixed_cube, one_thing,
                    plain_answer, plain_steps, row_of, samples, shape, side_way, small_lists, small_orders, square,
                    uneven_orders)

NUMBER = "(?:0|[1-9][0-9]*)"
# Words that are no a<b, whatever stands ahead.
NO_PAIRS = ["", "0", "1", "<", "0<", "<1", "0<1<", "<0<1", "0<1<2", "0<<1", "0>1", "1-0", "0<=1", "00<1", "0<01", "0<00",
            "+0<1", "0<+1", "-0<1", "0<-1", "0_0<1", "1_0<1", "0<1_0", "_0<1", "a<b", "0<b", "0x0<1", "0<1.", "0.0<1",
            "0<1,", "(0<1)", "0<1~", "!<1", "0;1", "0\t<1", "1e0<1", "0<1)", "0<1\"", "0=1"]
# Words that are no count.
NO_COUNTS = ["", "0<1", "<", "00", "01", "04", "+4", "-4", "-0", "4_0", "_4", "4_", "a", "4a", "4.", "4.0", "4e0", "0x4",
             "#", "~", "4,", "four", "<4", "4<", "\"4\"", "'4'"]


def first_that_is_none(text):
    """The number of the first word that is none such, or None."""
    for number, word in enumerate(text.split(" ")):
        form = NUMBER if number == 0 else f"{NUMBER}<{NUMBER}"
        if re.fullmatch(form, word) is None:
            return number
    return None


class OrderTextTest(unittest.TestCase):
    def test_some(self):
        self.assertEqual(order_text(one_thing()), "1")
        self.assertEqual(order_text(row_of(2)), "2 0<1")
        self.assertEqual(order_text(square()), "4 0<1 0<2 1<3 2<3")
        self.assertEqual(order_text(side_way()), "5 0<1 0<2 1<3 2<4 3<4")
        self.assertEqual(order_text(Order(3, [(2, 1), (1, 0), (2, 0)])), "3 1<0 2<1")

    def test_steps_rise_as_numbers(self):
        self.assertEqual(order_text(row_of(12)), "12 0<1 1<2 2<3 3<4 4<5 5<6 6<7 7<8 8<9 9<10 10<11")
        told = order_text(Order(24, [(thing + 1, thing) for thing in range(23)]))
        self.assertEqual(told, "24 " + " ".join(f"{thing + 1}<{thing}" for thing in range(23)))

    def test_all_samples(self):
        for order in samples() + even_orders() + uneven_orders() + small_orders(6):
            kept = shape(order)
            told = order_text(order)
            self.assertIs(type(told), str)
            self.assertEqual(told, " ".join([str(order.count)] + [f"{a}<{b}" for a, b in plain_steps(order)]))
            self.assertEqual(shape(order), kept)


class ReadOrderTest(unittest.TestCase):
    def test_some(self):
        self.assertEqual(shape(read_order("1")), (1, ()))
        self.assertEqual(shape(read_order("2 0<1")), (2, ((0, 1),)))
        self.assertEqual(shape(read_order("4 0<1 0<2 1<3 2<3")), shape(square()))
        self.assertIs(type(read_order("1")), Order)

    def test_texts_told_are_read_to_the_like_order_and_told_again(self):
        for order in samples() + even_orders() + uneven_orders() + small_orders(6):
            text = order_text(order)
            again = read_order(text)
            self.assertEqual(shape(again), shape(order))
            self.assertEqual(steps(again), steps(order))
            self.assertEqual(order_text(again), text)

    def test_words_in_whatever_order(self):
        for words in permutations(["0<1", "0<2", "1<3", "2<3"]):
            self.assertEqual(shape(read_order("4 " + " ".join(words))), shape(square()))

    def test_words_more_than_once_and_words_that_follow(self):
        self.assertEqual(shape(read_order("4 2<3 0<1 0<1 0<2 1<3 2<3 0<1")), shape(square()))
        self.assertEqual(shape(read_order("4 0<3 0<1 0<2 1<3 2<3")), shape(square()))
        self.assertEqual(order_text(read_order("3 0<2 1<2 0<1")), "3 0<1 1<2")

    def test_a_thing_and_itself(self):
        self.assertEqual(shape(read_order("1 0<0")), (1, ()))
        self.assertEqual(shape(read_order("4 3<3 0<1 0<2 0<0 1<3 2<3 0<0")), shape(square()))
        self.assertEqual(answer(read_order, "1 1<1"), ("NoThing", 1))

    def test_a_text_of_722_signs(self):
        # As many words of six signs as there is room for, some of them more than once.
        row = "24" + "".join(f" {thing}<{thing + 1}" for thing in range(23))
        self.assertEqual(shape(read_order(row + " 0<23" * 2 + " 10<12" * 97)), shape(row_of(24)))
        folds = order_text(four_fold())
        padded = folds + " 10<11" * ((722 - len(folds)) // 6)
        self.assertGreater(len(padded), 716)
        self.assertEqual(shape(read_order(padded)), shape(four_fold()))
        full = "24" + "".join(f" {thing}<{thing + 1}" for thing in range(10, 23)) * 10
        full = full[:722]
        self.assertEqual((len(full), len(full.split(" "))), (722, 121))
        self.assertEqual(answer(read_order, full), ("NoJoin", (0, 1)))

    def test_texts_of_one_long_word(self):
        self.assertEqual(answer(read_order, "9" * 722), ("NoCount",))
        self.assertEqual(answer(read_order, "2 0<" + "7" * 718), ("NoThing", int("7" * 718)))
        self.assertEqual(answer(read_order, "0" * 722), ("NoText", 0))
        self.assertEqual(answer(read_order, " " * 722), ("NoText", 0))
        self.assertEqual(answer(read_order, "<" * 722), ("NoText", 0))
        self.assertEqual(answer(read_order, "1" + " " * 721), ("NoText", 1))


class NoTextTest(unittest.TestCase):
    def check(self, text, at):
        with self.subTest(text=text):
            with self.assertRaises(NoText) as caught:
                read_order(text)
            self.assertEqual(caught.exception.at, at)
            self.assertIs(type(caught.exception.at), int)

    def test_no_word(self):
        self.check("", 0)
        self.check(" ", 0)
        self.check("  ", 0)

    def test_blanks(self):
        self.check(" 2 0<1", 0)
        self.check("2  0<1", 1)
        self.check("2 0<1 ", 2)
        self.check("3 0<1  1<2", 2)
        self.check("3 0<1 1<2  ", 3)
        self.check("1 ", 1)
        self.check("2 0 <1", 1)
        self.check("2 0< 1", 1)
        self.check("2 0 < 1", 1)

    def test_no_counts(self):
        for word in NO_COUNTS:
            self.check(word, 0)
            self.check(word + " 0<1", 0)
            self.check(word + " 0<1 0<01", 0)

    def test_no_pairs(self):
        for word in NO_PAIRS:
            self.check("2 " + word, 1)
            self.check("2 0<1 " + word, 2)
            self.check("2 " + word + " 0<1", 1)
            self.check("2 0<1 0<1 0<1 " + word + " 0<1 x", 4)

    def test_every_sign(self):
        for sign in map(chr, range(32, 127)):
            if not sign.isdigit():
                self.check(sign, 0)
                self.check("2 0<1" + sign, 2 if sign == " " else 1)
                self.check("2 " + sign + "0<1", 1)
                self.check("2" + sign + " 0<1", 1 if sign == " " else 0)
                if sign != "<":
                    self.check("2 0" + sign + "1", 1)

    def test_ahead_of_all_other_refusals(self):
        # A count, a thing, an order or a join would be refused in these, too.
        self.check("0 x", 1)
        self.check("25 0<1 0", 2)
        self.check("2 0<9 y", 2)
        self.check("2 0<1 1<0 0<00", 3)
        self.check("2 0<0 1", 2)

    def test_all_short_texts(self):
        for size in range(6):
            for signs in product("0 1<x", repeat=size):
                text = "".join(signs)
                at = first_that_is_none(text)
                told = answer(lambda: shape(read_order(text)))
                if at is None:
                    self.assertNotEqual(told[0], "NoText", text)
                else:
                    self.assertEqual(told, ("NoText", at), text)


class AsPointFiveTellsTest(unittest.TestCase):
    def test_counts(self):
        for text in ("0", "25", "25 0<1", "0 0<0", "100", str(FORTY_FIGURES), "0 9<9", "26 0<1 1<0 99<99"):
            with self.subTest(text=text):
                with self.assertRaises(NoCount):
                    read_order(text)
        self.assertEqual(read_order("24" + "".join(f" {thing}<{thing + 1}" for thing in range(23))).count, 24)

    def test_the_first_that_is_no_thing(self):
        for text, thing in (("2 0<2", 2), ("2 2<0", 2), ("2 3<2", 3), ("2 0<1 1<0 5<4", 5), ("3 0<1 0<7 9<0", 7),
                            (f"2 0<{FORTY_FIGURES}", FORTY_FIGURES), ("24 0<24", 24), ("1 0<1", 1), ("2 10<0", 10)):
            with self.subTest(text=text):
                with self.assertRaises(NoThing) as caught:
                    read_order(text)
                self.assertEqual(caught.exception.thing, thing)

    def test_below_each_other(self):
        self.assertEqual(answer(read_order, "2 0<1 1<0"), ("NoOrder", (0, 1)))
        self.assertEqual(answer(read_order, "5 4<3 3<4 2<1 1<2"), ("NoOrder", (1, 2)))
        self.assertEqual(answer(read_order, "3 2<1 1<0 0<2"), ("NoOrder", (0, 1)))

    def test_no_joins(self):
        self.assertEqual(answer(read_order, "2"), ("NoJoin", (0, 1)))
        self.assertEqual(answer(read_order, "3 0<1 0<2"), ("NoJoin", (1, 2)))
        self.assertEqual(answer(read_order, "3 1<0 2<0"), ("NoJoin", (1, 2)))
        self.assertEqual(answer(read_order, "6 0<1 0<2 1<3 1<4 2<3 2<4 3<5 4<5"), ("NoJoin", (1, 2)))

    def test_all_lists_of_pairs_of_three_things(self):
        for pairs in small_lists(3):
            text = " ".join(["3"] + [f"{a}<{b}" for a, b in pairs])
            told = answer(lambda: ("Order", read_order(text).pairs))
            self.assertEqual(told, plain_answer(3, pairs))

    def test_who_reads_again_is_told_the_same(self):
        text = order_text(fields_order())
        one, other = read_order(text), read_order(text)
        self.assertEqual(shape(one), shape(other))
        with self.assertRaises(NoText):
            read_order(text + " ")
        self.assertEqual(shape(read_order(text)), shape(one))
        for order in (flat(24), mixed_cube()):
            self.assertEqual(order_text(order), order_text(order))


if __name__ == "__main__":
    unittest.main()
