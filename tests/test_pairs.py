"""Points 2, 4, 15 and 16: carried parts, and the steps of two climbs paired."""

import unittest
from itertools import product

from evenclimb.errors import NoClimb, NoEnds, NoPart, NotEven
from evenclimb.pairs import carried, paired
from helper import (FORTY_FIGURES, bars, carried_up, even_orders, fields_order, flat, hexagon, mixed_cube, parts,
                    plain_climbs, renumbered, row_of, side_way, small_orders, square, things_twice, uneven_orders)


class CarriedTest(unittest.TestCase):
    def test_some(self):
        self.assertEqual(carried(square(), (0, 1), (2, 3)), "up")
        self.assertEqual(carried(square(), (2, 3), (0, 1)), "down")
        self.assertEqual(carried(square(), (0, 1), (0, 1)), "both")
        self.assertEqual(carried(square(), (0, 1), (1, 3)), "no")
        self.assertEqual(carried(square(), (0, 1), (0, 2)), "no")
        self.assertEqual(carried(square(), (0, 3), (0, 1)), "no")
        self.assertEqual(carried(side_way(), (0, 2), (1, 4)), "up")
        self.assertEqual(carried(side_way(), (3, 4), (0, 2)), "down")
        self.assertEqual(carried(side_way(), (0, 2), (3, 4)), "up")
        self.assertEqual(carried(side_way(), (0, 1), (2, 4)), "up")
        self.assertEqual(carried(side_way(), (0, 3), (2, 4)), "up")
        self.assertEqual(carried(side_way(), (1, 3), (2, 4)), "no")

    def test_all_parts_of_small_orders(self):
        words = {(True, True): "both", (True, False): "up", (False, True): "down", (False, False): "no"}
        for order in [row_of(3), square(), flat(5), side_way(), hexagon(), mixed_cube(), renumbered(hexagon(), 5),
                      fields_order()] + small_orders(6):
            for one, other in product(order.pairs, repeat=2):
                told = carried(order, one, other)
                self.assertEqual(told, words[carried_up(order, one, other), carried_up(order, other, one)])
                self.assertEqual(told == "both", one == other)

    def test_what_is_no_part(self):
        for part in ((0, 0), (3, 3), (1, 0), (3, 0), (1, 2), (2, 1), (0, 4), (-1, 3), (4, 5), (0, -1), (-4, -1),
                     (0, FORTY_FIGURES), (-FORTY_FIGURES, 3), (False, 1), (0, True), (), (0,), (0, 1, 3)):
            with self.subTest(part=part):
                with self.assertRaises(NoPart):
                    carried(square(), part, (0, 1))
                with self.assertRaises(NoPart):
                    carried(square(), (0, 1), part)
                with self.assertRaises(NoPart):
                    carried(square(), part, part)

    def test_all_tuples_of_small_orders(self):
        for order in (square(), side_way(), flat(5)):
            for part in product(range(-1, order.count + 1), repeat=2):
                if part not in order.pairs:
                    with self.assertRaises(NoPart):
                        carried(order, part, order.pairs[0])
                    with self.assertRaises(NoPart):
                        carried(order, order.pairs[-1], part)


class PairedTest(unittest.TestCase):
    def check_road(self, order, road, start, end):
        self.assertIs(type(road), list)
        self.assertEqual((road[0], road[-1]), (start, end))
        for part in road:
            self.assertIs(type(part), tuple)
            self.assertIn(part, order.pairs)
        for low, high in parts(road):
            self.assertTrue(carried_up(order, low, high) or carried_up(order, high, low))

    def check_paired(self, order, one, other):
        told = paired(order, one, other)
        self.assertIs(type(told), list)
        self.assertEqual(len(told), len(one) - 1)
        self.assertEqual(sorted(number for number, road in told), list(range(len(other) - 1)))
        for step, row in zip(parts(one), told):
            self.assertIs(type(row), tuple)
            number, road = row
            self.assertIs(type(number), int)
            self.check_road(order, road, step, parts(other)[number])

    def test_climbs_of_one_thing_or_one_step(self):
        self.assertEqual(paired(square(), [2], [2]), [])
        self.assertEqual(paired(square(), [0, 1], [0, 1]), [(0, [(0, 1)])])

    def test_a_square(self):
        self.assertEqual(paired(square(), [0, 1, 3], [0, 2, 3]), [(1, [(0, 1), (2, 3)]), (0, [(1, 3), (0, 2)])])

    def test_a_row_is_paired_with_itself(self):
        climb = list(range(24))
        self.assertEqual(paired(row_of(24), climb, climb), [(number, [step]) for number, step in enumerate(parts(climb))])

    def test_any_two_climbs_of_small_even_orders(self):
        evens = [order for order in small_orders(6) if not any(bars(order, five) for five in product(range(6), repeat=5))]
        for order in evens + [flat(7), mixed_cube(), fields_order()]:
            for a, b in things_twice(order):
                for one, other in product(plain_climbs(order, a, b), repeat=2):
                    self.check_paired(order, one, other)

    def test_climbs_of_even_orders_up_to_twenty_four_things(self):
        for order in even_orders():
            climbs = plain_climbs(order, order.lowest(), order.highest())
            for one, other in product(climbs[::11] + climbs[-1:], climbs[::7] + climbs[-1:]):
                self.check_paired(order, one, other)

    def test_climbs_between_other_things(self):
        for order in (even_orders()[10], even_orders()[13], even_orders()[15]):
            for a, b in things_twice(order):
                climbs = plain_climbs(order, a, b)
                for one, other in zip(climbs, reversed(climbs)):
                    self.check_paired(order, one, other)

    def test_what_is_no_climb(self):
        for things in ([], [0, 3], [0, 0], [3, 1], [1, 2], [4], [-1], [0, 1, 4], [FORTY_FIGURES], [0, True, 3]):
            for climb in ([0, 1, 3], [0, 1], [2]):
                with self.subTest(things=things):
                    with self.assertRaises(NoClimb):
                        paired(square(), things, climb)
                    with self.assertRaises(NoClimb):
                        paired(square(), climb, things)

    def test_unlike_ends(self):
        for one, other in (([0, 1], [0, 2]), ([0, 1, 3], [0, 1]), ([1, 3], [2, 3]), ([0, 1, 3], [1, 3]), ([1], [2])):
            with self.subTest(one=one, other=other):
                with self.assertRaises(NoEnds):
                    paired(square(), one, other)
                with self.assertRaises(NoEnds):
                    paired(square(), other, one)

    def test_an_order_that_is_not_even(self):
        for order in uneven_orders():
            climbs = plain_climbs(order, order.lowest(), order.highest())
            for one, other in ((climbs[0], climbs[-1]), (climbs[0], climbs[0]), ([0], [0])):
                with self.assertRaises(NotEven) as caught:
                    paired(order, one, other)
                self.assertIs(type(caught.exception.five), tuple)
                self.assertEqual(len(caught.exception.five), 5)
                self.assertTrue(bars(order, caught.exception.five))

    def test_the_order_of_the_refusals(self):
        # The order is not even in all of these.
        for one, other in (([0, 3], [1, 3]), ([0, 1], [0, 4]), ([], [0]), ([5], [5]), ([0, 4], [0, 4])):
            with self.assertRaises(NoClimb):
                paired(side_way(), one, other)
        for one, other in (([0, 1], [0, 2]), ([1, 3], [3]), ([2, 4], [3, 4])):
            with self.assertRaises(NoEnds):
                paired(side_way(), one, other)
        # A list that is no climb, beside a climb with other ends.
        with self.assertRaises(NoClimb):
            paired(square(), [0, 1], [1, 2])
        with self.assertRaises(NoClimb):
            paired(square(), [0, 3], [1])

    def test_lists_stay_as_they_were(self):
        order = fields_order()
        climbs = plain_climbs(order, 0, 15)
        one, other = list(climbs[0]), list(climbs[-1])
        told = paired(order, one, other)
        self.assertEqual((one, other), (climbs[0], climbs[-1]))
        kept = [(number, list(road)) for number, road in told]
        told[0][1].clear()
        told[1][1].append((0, 15))
        told.pop()
        self.assertEqual(paired(order, one, other), kept)
        self.assertEqual((one, other), (climbs[0], climbs[-1]))

    def test_roads_are_lists_of_their_own(self):
        climb = [0, 1, 2, 3, 4]
        told = paired(row_of(5), climb, climb)
        told[0][1].append((0, 4))
        self.assertEqual([road for number, road in told[1:]], [[(1, 2)], [(2, 3)], [(3, 4)]])


if __name__ == "__main__":
    unittest.main()
