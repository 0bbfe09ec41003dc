"""Points 2, 4, 13 and 14: exchanges, and climbs that are led into one another."""

import unittest
from itertools import product

from evenclimb.errors import NoClimb, NoEnds, NoExchange
from evenclimb.exchanges import exchanged, exchanges, led
from helper import (FORTY_FIGURES, even_orders, fields_order, flat, hexagon, mixed_cube, one_thing, plain_climbs,
                    plain_exchanges, plain_groups, renumbered, row_of, side_way, small_orders, square, things_twice,
                    uneven_orders, upon)

NO_CLIMBS = ([], [0, 3], [0, 0], [3, 1], [1, 2], [4], [-1], [0, 1, 4], [-1, 3], [FORTY_FIGURES], [0, True, 3], [0, 1, 1, 3])


def small_ones():
    return [one_thing(), row_of(3), square(), flat(6), side_way(), hexagon(), mixed_cube(), renumbered(hexagon(), 5),
            fields_order()] + small_orders(6)


def all_climbs(order):
    return [climb for a, b in things_twice(order) for climb in plain_climbs(order, a, b)]


class ExchangesTest(unittest.TestCase):
    def test_some(self):
        self.assertEqual(exchanges(square(), [0, 1, 3]), [(1, 2)])
        self.assertEqual(exchanges(flat(6), [0, 3, 5]), [(1, 1), (1, 2), (1, 4)])
        self.assertEqual(exchanges(upon(square(), square()), [0, 2, 3, 4, 6]), [(1, 1), (3, 5)])
        self.assertEqual(exchanges(hexagon(), [0, 1, 2, 5]), [])

    def test_climbs_without_a_place_between(self):
        self.assertEqual(exchanges(square(), [2]), [])
        self.assertEqual(exchanges(square(), [0, 2]), [])
        self.assertEqual(exchanges(one_thing(), [0]), [])

    def test_all_climbs_of_small_orders(self):
        for order in small_ones():
            for climb in all_climbs(order):
                told = exchanges(order, climb)
                self.assertEqual(told, plain_exchanges(order, climb))
                self.assertIs(type(told), list)
                self.assertTrue(all(type(exchange) is tuple for exchange in told))

    def test_what_is_no_climb(self):
        for things in NO_CLIMBS:
            with self.subTest(things=things):
                with self.assertRaises(NoClimb):
                    exchanges(square(), things)

    def test_lists_stay_as_they_were(self):
        order = flat(6)
        climb = [0, 3, 5]
        told = exchanges(order, climb)
        self.assertEqual(climb, [0, 3, 5])
        told.append((1, 3))
        told[0] = (9, 9)
        self.assertEqual(exchanges(order, climb), [(1, 1), (1, 2), (1, 4)])


class ExchangedTest(unittest.TestCase):
    def refused(self, order, climb, exchange):
        with self.subTest(climb=climb, exchange=exchange):
            with self.assertRaises(NoExchange):
                exchanged(order, climb, exchange)

    def test_some(self):
        self.assertEqual(exchanged(square(), [0, 1, 3], (1, 2)), [0, 2, 3])
        self.assertEqual(exchanged(upon(square(), square()), [0, 2, 3, 4, 6], (3, 5)), [0, 2, 3, 5, 6])

    def test_whatever_two_numbers_on_all_climbs_of_small_orders(self):
        for order in [row_of(3), square(), flat(6), side_way(), hexagon(), mixed_cube()] + small_orders(5):
            for climb in all_climbs(order):
                known = plain_exchanges(order, climb)
                for exchange in product(range(-len(climb) - 1, len(climb) + 2), range(-1, order.count + 1)):
                    if exchange in known:
                        place, thing = exchange
                        expected = list(climb)
                        expected[place] = thing
                        self.assertEqual(exchanged(order, climb, exchange), expected)
                        self.assertIn(expected, plain_climbs(order, climb[0], climb[-1]))
                    else:
                        self.refused(order, climb, exchange)

    def test_the_first_and_the_last_place(self):
        for place in (0, 2):
            for thing in range(4):
                self.refused(square(), [0, 1, 3], (place, thing))
        # With 2 at the last or the first place it would be a climb, too.
        self.refused(square(), [0, 1], (1, 2))
        self.refused(square(), [1, 3], (0, 2))

    def test_places_below_nought_and_beyond(self):
        for place in (-1, -2, -3, -4, 3, 4, 100, FORTY_FIGURES, -FORTY_FIGURES):
            for thing in (0, 1, 2, 3):
                self.refused(square(), [0, 1, 3], (place, thing))

    def test_things_that_stand_there_or_are_none(self):
        for thing in (1, 0, 3, 4, -1, -2, FORTY_FIGURES, -FORTY_FIGURES):
            self.refused(square(), [0, 1, 3], (1, thing))

    def test_a_truth_is_no_whole_number(self):
        self.refused(square(), [0, 1, 3], (True, 2))
        self.refused(square(), [0, 2, 3], (1, True))

    def test_no_climb_is_refused_ahead_of_no_exchange(self):
        for things in NO_CLIMBS:
            for exchange in ((1, 2), (0, 0), (-1, 9), (FORTY_FIGURES, 0)):
                with self.assertRaises(NoClimb):
                    exchanged(square(), things, exchange)

    def test_lists_stay_as_they_were(self):
        order = square()
        climb = [0, 1, 3]
        told = exchanged(order, climb, (1, 2))
        self.assertIs(type(told), list)
        self.assertEqual(climb, [0, 1, 3])
        told.append(9)
        told[0] = 8
        self.assertEqual(climb, [0, 1, 3])
        self.assertEqual(exchanged(order, climb, (1, 2)), [0, 2, 3])

    def test_an_exchange_is_taken_back(self):
        for order in (mixed_cube(), fields_order()):
            for climb in all_climbs(order):
                for place, thing in exchanges(order, climb):
                    self.assertEqual(exchanged(order, exchanged(order, climb, (place, thing)), (place, climb[place])), climb)


class LedTest(unittest.TestCase):
    def check_led(self, order, one, other, told):
        self.assertIs(type(told), list)
        climb = list(one)
        for exchange in told:
            self.assertIs(type(exchange), tuple)
            self.assertIn(exchange, plain_exchanges(order, climb))
            climb[exchange[0]] = exchange[1]
        self.assertEqual(climb, other)

    def test_like_climbs(self):
        for order in small_ones():
            for climb in all_climbs(order):
                self.assertEqual(led(order, climb, list(climb)), [])

    def test_some(self):
        self.assertEqual(led(square(), [0, 1, 3], [0, 2, 3]), [(1, 2)])
        self.assertIsNone(led(hexagon(), [0, 1, 2, 5], [0, 3, 4, 5]))
        self.assertIsNone(led(side_way(), [0, 1, 3, 4], [0, 2, 4]))
        self.assertIsNone(led(side_way(), [0, 2, 4], [0, 1, 3, 4]))

    def test_any_two_climbs_of_small_even_orders(self):
        evens = [flat(6), mixed_cube(), renumbered(fields_order(), 3)]
        for order in evens:
            for a, b in things_twice(order):
                for one, other in product(plain_climbs(order, a, b), repeat=2):
                    self.check_led(order, one, other, led(order, one, other))

    def test_climbs_of_even_orders_up_to_twenty_four_things(self):
        for order in even_orders():
            climbs = plain_climbs(order, order.lowest(), order.highest())
            for one, other in product(climbs[::13] + climbs[-1:], climbs[::17] + climbs[-1:]):
                self.check_led(order, one, other, led(order, one, other))

    def check_all(self, order, a, b):
        groups = plain_groups(order, a, b)
        for one, other in product(groups, repeat=2):
            told = led(order, list(one), list(other))
            if other in groups[one]:
                self.check_led(order, list(one), list(other), told)
            else:
                self.assertIsNone(told)

    def test_none_just_where_none_do(self):
        for order in uneven_orders() + small_orders(6):
            self.check_all(order, order.lowest(), order.highest())
        for order in [upon(hexagon(), square()), renumbered(hexagon(), 5), side_way(), hexagon()]:
            for a, b in things_twice(order):
                self.check_all(order, a, b)

    def test_led_in_an_order_that_is_not_even(self):
        order = upon(hexagon(), square())
        self.assertEqual(led(order, [0, 1, 2, 5, 6, 8], [0, 1, 2, 5, 7, 8]), [(4, 7)])
        self.assertIsNone(led(order, [0, 1, 2, 5, 6, 8], [0, 3, 4, 5, 6, 8]))

    def test_what_is_no_climb(self):
        for things in NO_CLIMBS:
            for climb in ([0, 1, 3], [0, 1], [2]):
                with self.subTest(things=things):
                    with self.assertRaises(NoClimb):
                        led(square(), things, climb)
                    with self.assertRaises(NoClimb):
                        led(square(), climb, things)
                    with self.assertRaises(NoClimb):
                        led(square(), things, list(things))

    def test_unlike_ends(self):
        for one, other in (([0, 1], [0, 2]), ([0, 1, 3], [0, 1]), ([1, 3], [2, 3]), ([0, 1, 3], [1, 3]), ([1], [2]),
                           ([0, 1, 3], [0]), ([3], [0, 2, 3]), ([0, 1], [2, 3])):
            with self.subTest(one=one, other=other):
                with self.assertRaises(NoEnds):
                    led(square(), one, other)
                with self.assertRaises(NoEnds):
                    led(square(), other, one)

    def test_lists_stay_as_they_were(self):
        order = fields_order()
        climbs = plain_climbs(order, 0, 15)
        one, other = list(climbs[0]), list(climbs[-1])
        told = led(order, one, other)
        self.assertEqual((one, other), (climbs[0], climbs[-1]))
        kept = list(told)
        told.append((1, 1))
        told[0] = (9, 9)
        self.assertEqual(led(order, one, other), kept)
        empty = led(order, one, one)
        empty.append((1, 1))
        self.assertEqual(led(order, one, one), [])
        self.assertEqual((one, other), (climbs[0], climbs[-1]))

    def test_who_asks_again_is_told_the_same(self):
        order = mixed_cube()
        climbs = plain_climbs(order, order.lowest(), order.highest())
        first = [led(order, one, other) for one, other in product(climbs, repeat=2)]
        self.assertEqual(first, [led(order, one, other) for one, other in product(climbs, repeat=2)])


if __name__ == "__main__":
    unittest.main()
