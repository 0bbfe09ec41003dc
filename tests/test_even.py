"""Points 2, 4 and 10 to 12: even orders, their heights, and five things that bar an order."""

import unittest
from itertools import product

from evenclimb.climbs import steps
from evenclimb.even import evenness, is_five, uneven
from evenclimb.orders import Order
from helper import (FORTY_FIGURES, bars, beside, even_orders, fields_order, flat, hexagon, mixed_cube, one_thing,
                    plain_climbs, plain_height, renumbered, row_of, side_way, small_orders, square, things_twice,
                    uneven_orders, upon, ways_to_part_four)


def plain_uneven(order):
    """All tuples (a, b, c) for which the order is not even, rising."""
    return [(a, b, c) for a, b, c in product(range(order.count), repeat=3) if order.at_most(a, c)
            and order.join(a, order.meet(b, c)) != order.meet(order.join(a, b), c)]


def all_small_orders():
    """All orders of two to six things, each numbered as it rises and otherwise."""
    for count, factor in ((2, 1), (3, 2), (4, 3), (5, 2), (6, 5)):
        for order in small_orders(count):
            yield order
            yield renumbered(order, factor)


class UnevenTest(unittest.TestCase):
    def test_even_orders(self):
        for order in even_orders():
            self.assertIsNone(uneven(order))

    def test_orders_that_are_not_even(self):
        for order in uneven_orders():
            told = uneven(order)
            self.assertIs(type(told), tuple)
            self.assertEqual(told, plain_uneven(order)[0])

    def test_the_first_of_several(self):
        self.assertEqual(uneven(side_way()), (1, 2, 3))
        self.assertEqual(plain_uneven(hexagon()), [(1, 3, 2), (1, 4, 2), (3, 1, 4), (3, 2, 4)])
        self.assertEqual(uneven(hexagon()), (1, 3, 2))

    def test_the_second_of_three_is_looked_at_ahead_of_the_third(self):
        # Two side ways share 0 and 1: 2 is beside 5, and 3 is beside 4.
        order = Order(9, [(0, 1), (1, 5), (5, 6), (0, 2), (2, 6), (1, 4), (4, 7), (0, 3), (3, 7), (6, 8), (7, 8)])
        self.assertEqual(plain_uneven(order)[:2], [(1, 2, 5), (1, 3, 4)])
        self.assertEqual(uneven(order), (1, 2, 5))

    def test_things_numbered_otherwise_than_they_rise(self):
        # From 4 to 0 by 3 and 1, or by 2 alone.
        self.assertEqual(uneven(Order(5, [(4, 3), (3, 1), (1, 0), (4, 2), (2, 0)])), (3, 2, 1))
        # From 2 to 3 by 4 and 0, or by 5 and 1.
        turned = Order(6, [(2, 4), (4, 0), (0, 3), (2, 5), (5, 1), (1, 3)])
        self.assertEqual(plain_uneven(turned), [(4, 1, 0), (4, 5, 0), (5, 0, 1), (5, 4, 1)])
        self.assertEqual(uneven(turned), (4, 1, 0))

    def test_all_climbs_as_long_is_not_enough(self):
        for order in uneven_orders()[1:6]:
            for a, b in things_twice(order):
                self.assertLessEqual(len({len(climb) for climb in plain_climbs(order, a, b)}), 1)
            self.assertIsNotNone(uneven(order))
            self.assertIs(evenness(order)[0], False)

    def test_all_small_orders_against_a_plain_reckoning(self):
        for order in all_small_orders():
            self.assertEqual(uneven(order), (plain_uneven(order) or [None])[0])

    def test_how_many_small_orders_are_not_even(self):
        # Up to four things all are even; of five things the side way alone isn't, here numbered in three ways.
        barred = [len([order for order in small_orders(count) if uneven(order)]) for count in (2, 3, 4, 5)]
        self.assertEqual(barred, [0, 0, 0, 3])


class IsFiveTest(unittest.TestCase):
    def test_five_that_bar(self):
        self.assertIs(is_five(side_way(), (0, 1, 2, 3, 4)), True)
        for five in ((0, 1, 3, 2, 5), (0, 1, 4, 2, 5), (0, 3, 1, 4, 5), (0, 3, 2, 4, 5)):
            self.assertIs(is_five(hexagon(), five), True)

    def test_tuples_of_other_lengths(self):
        five = (0, 1, 2, 3, 4)
        for length in (0, 1, 2, 3, 4):
            self.assertIs(is_five(side_way(), five[:length]), False)
        self.assertIs(is_five(side_way(), five + (4,)), False)
        self.assertIs(is_five(side_way(), (0,) + five), False)
        self.assertIs(is_five(side_way(), five * 24), False)
        self.assertIs(is_five(one_thing(), ()), False)

    def test_numbers_that_are_no_things(self):
        for place in range(5):
            for number in (5, -1, -5, FORTY_FIGURES, -FORTY_FIGURES, True, False):
                five = [0, 1, 2, 3, 4]
                five[place] = number
                with self.subTest(five=five):
                    self.assertIs(is_five(side_way(), tuple(five)), False)

    def test_numbers_that_count_from_the_end_are_no_things(self):
        self.assertIs(is_five(side_way(), (-5, -4, -3, -2, -1)), False)

    def test_a_truth_is_no_thing(self):
        self.assertIs(is_five(side_way(), (0, True, 2, 3, 4)), False)
        self.assertIs(is_five(side_way(), (False, 1, 2, 3, 4)), False)

    def test_low_alone_is_not_below_high(self):
        self.assertIs(is_five(flat(5), (0, 1, 2, 3, 4)), False)
        self.assertIs(is_five(square(), (0, 1, 2, 1, 3)), False)
        self.assertIs(is_five(side_way(), (0, 3, 2, 1, 4)), False)

    def test_one_join_or_meet_alone_fails(self):
        cube = Order(8, [(low, high) for low, high in product(range(8), repeat=2) if low & high == low])
        # low 1, side 4, high 3: the joins are 5 and 7, both meets are 0.
        self.assertIs(is_five(cube, (0, 1, 4, 3, 7)), False)
        self.assertIs(is_five(cube, (0, 1, 4, 3, 5)), False)
        # low 1, side 6, high 3: the meets are 0 and 2, both joins are 7.
        self.assertIs(is_five(cube, (0, 1, 6, 3, 7)), False)
        self.assertIs(is_five(cube, (2, 1, 6, 3, 7)), False)

    def test_bottom_or_top_is_another_thing(self):
        order = upon(upon(row_of(2), side_way()), row_of(2))
        five = evenness(order)[1]
        self.assertIs(is_five(order, five), True)
        for other in range(order.count):
            self.assertIs(is_five(order, (other,) + five[1:]), other == five[0])
            self.assertIs(is_five(order, five[:4] + (other,)), other == five[4])

    def test_side_at_most_high_or_low_at_most_side(self):
        for five in ((0, 1, 0, 3, 4), (0, 1, 1, 3, 3), (0, 1, 3, 3, 3), (1, 1, 4, 3, 4), (1, 1, 3, 3, 3), (0, 0, 2, 3, 4)):
            self.assertIs(is_five(side_way(), five), False)

    def test_all_tuples_of_small_orders(self):
        for order in [square(), flat(5), side_way(), renumbered(side_way(), 2), hexagon(), renumbered(hexagon(), 5)]:
            for five in product(range(order.count), repeat=5):
                self.assertIs(is_five(order, five), bars(order, five))

    def test_an_even_order_has_none(self):
        for order in (square(), flat(6), mixed_cube()):
            self.assertFalse(any(is_five(order, five) for five in product(range(order.count), repeat=5)))


class EvennessTest(unittest.TestCase):
    def check_heights(self, order, told):
        self.assertIs(type(told), tuple)
        self.assertEqual(len(told), 2)
        even, heights = told
        self.assertIs(even, True)
        self.assertIs(type(heights), list)
        self.assertEqual(len(heights), order.count)
        self.assertTrue(all(type(height) is int for height in heights))
        self.assertEqual(heights[order.lowest()], 0)
        for low, high in steps(order):
            self.assertEqual(heights[high], heights[low] + 1)
        for a, b in things_twice(order):
            self.assertEqual(heights[order.join(a, b)] + heights[order.meet(a, b)], heights[a] + heights[b])

    def check_five(self, order, told):
        self.assertIs(type(told), tuple)
        self.assertEqual(len(told), 2)
        even, five = told
        self.assertIs(even, False)
        self.assertIs(type(five), tuple)
        self.assertEqual(len(five), 5)
        self.assertTrue(bars(order, five))
        self.assertIs(is_five(order, five), True)

    def test_heights_of_even_orders(self):
        for order in even_orders():
            told = evenness(order)
            self.check_heights(order, told)
            self.assertEqual(told[1], [plain_height(order, thing) for thing in range(order.count)])

    def test_five_of_the_others(self):
        for order in uneven_orders():
            self.check_five(order, evenness(order))

    def test_some_heights(self):
        self.assertEqual(evenness(one_thing()), (True, [0]))
        self.assertEqual(evenness(square()), (True, [0, 1, 1, 2]))
        self.assertEqual(evenness(Order(3, [(2, 0), (0, 1)])), (True, [1, 2, 0]))
        self.assertEqual(evenness(mixed_cube()), (True, [2, 2, 1, 3, 1, 0, 2, 1]))
        self.assertEqual(evenness(row_of(24)), (True, list(range(24))))

    def test_the_one_five_that_there_is(self):
        self.assertEqual(evenness(side_way()), (False, (0, 1, 2, 3, 4)))
        # From 4 to 0 by 3 and 1, or by 2 alone.
        self.assertEqual(evenness(Order(5, [(4, 3), (3, 1), (1, 0), (4, 2), (2, 0)])), (False, (4, 3, 2, 1, 0)))

    def test_all_small_orders(self):
        for order in list(all_small_orders()) + small_orders(7):
            told = evenness(order)
            if uneven(order) is None:
                self.check_heights(order, told)
            else:
                self.check_five(order, told)

    def test_orders_side_by_side(self):
        self.assertIs(evenness(beside(flat(5), square()))[0], True)
        self.assertIs(evenness(beside(side_way(), square()))[0], False)
        self.assertIs(evenness(beside(square(), hexagon()))[0], False)

    def test_a_told_list_is_the_askers_own(self):
        order = fields_order()
        heights = evenness(order)[1]
        kept = list(heights)
        heights.append(9)
        heights[0] = 7
        self.assertEqual(evenness(order)[1], kept)
        still = evenness(order)[1]
        evenness(order)[1].clear()
        self.assertEqual(still, kept)

    def test_who_asks_again_is_told_the_same(self):
        for order in [fields_order(), ways_to_part_four(), hexagon()]:
            self.assertEqual((evenness(order), uneven(order)), (evenness(order), uneven(order)))


if __name__ == "__main__":
    unittest.main()
