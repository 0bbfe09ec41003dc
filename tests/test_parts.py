"""Points 2, 4, 6 and 18 to 20: what lies between two things, orders cut out, side by side and turned over."""

import unittest
from itertools import product

from evenclimb.climbs import steps
from evenclimb.errors import NoCount, NoPart, NoThing
from evenclimb.even import evenness, uneven
from evenclimb.orders import Order
from evenclimb.parts import between, cut, raised, side_by_side, turned
from helper import (FORTY_FIGURES, answer, beside, even_orders, fields_order, flat, hexagon, mixed_cube, one_thing,
                    plain_between, plain_even, renumbered, row_of, samples, shape, side_way, small_orders, square,
                    things_twice, uneven_orders, ways_to_part_four)

# What is asked, and the number that is no thing which is refused.
NO_THINGS = [((4, 0), 4), ((0, 4), 4), ((-1, 3), -1), ((3, -1), -1), ((5, -1), 5), ((-1, 5), -1), ((3, 4), 4), ((4, 4), 4),
             ((1, FORTY_FIGURES), FORTY_FIGURES), ((-FORTY_FIGURES, 9), -FORTY_FIGURES), ((-4, -1), -4)]


def all_samples():
    return samples() + even_orders() + uneven_orders()


class BetweenTest(unittest.TestCase):
    def test_some(self):
        self.assertEqual(between(square(), 0, 3), [0, 1, 2, 3])
        self.assertEqual(between(square(), 0, 1), [0, 1])
        self.assertEqual(between(square(), 2, 2), [2])
        self.assertEqual(between(side_way(), 0, 3), [0, 1, 3])
        self.assertEqual(between(one_thing(), 0, 0), [0])

    def test_the_list_rises_where_the_numbers_do_not_rise_with_the_order(self):
        order = Order(5, [(3, 4), (4, 0), (0, 2), (2, 1)])
        self.assertEqual(between(order, 4, 1), [0, 1, 2, 4])
        self.assertEqual(between(order, 4, 2), [0, 2, 4])
        self.assertEqual(between(mixed_cube(), 5, 6), [4, 5, 6, 7])

    def test_all_two_things_of_samples(self):
        for order in all_samples():
            for a, b in things_twice(order):
                told = answer(between, order, a, b)
                self.assertEqual(told, plain_between(order, a, b) if order.at_most(a, b) else ("NoPart",))
                self.assertEqual(answer(between, order, a, b), told)
                self.assertIs(type(told), list if order.at_most(a, b) else tuple)

    def test_the_first_is_not_at_most_the_second(self):
        for ask in (between, cut):
            for a, b in ((1, 0), (3, 0), (1, 2), (2, 1)):
                with self.assertRaises(NoPart):
                    ask(square(), a, b)

    def test_no_thing_goes_ahead_of_no_part(self):
        for ask in (between, cut):
            for (a, b), first in NO_THINGS:
                with self.subTest(a=a, b=b):
                    with self.assertRaises(NoThing) as caught:
                        ask(square(), a, b)
                    self.assertEqual(caught.exception.thing, first)

    def test_one_thing_has_no_other(self):
        for ask in (between, cut, raised):
            self.assertEqual(answer(ask, one_thing(), 0, 1), ("NoThing", 1))
            self.assertEqual(answer(ask, one_thing(), -1, 1), ("NoThing", -1))

    def test_a_told_list_is_the_askers_own(self):
        order = square()
        told = between(order, 0, 3)
        kept = between(order, 0, 3)
        told.clear()
        told.append(9)
        self.assertEqual(kept, [0, 1, 2, 3])
        self.assertEqual(between(order, 0, 3), [0, 1, 2, 3])
        self.assertEqual(shape(cut(order, 0, 3)), shape(square()))
        self.assertEqual(shape(order), shape(square()))


class CutTest(unittest.TestCase):
    def test_some(self):
        self.assertEqual(shape(cut(side_way(), 0, 3)), (3, ((0, 1), (0, 2), (1, 2))))
        self.assertEqual(shape(cut(side_way(), 1, 4)), (3, ((0, 1), (0, 2), (1, 2))))
        self.assertEqual(shape(cut(side_way(), 2, 2)), (1, ()))
        self.assertEqual(shape(cut(one_thing(), 0, 0)), (1, ()))
        # From 3 by 4, 0 and 2 to 1; between 4 and 2 stand 0, 2 and 4.
        row = Order(5, [(3, 4), (4, 0), (0, 2), (2, 1)])
        self.assertEqual(shape(cut(row, 4, 2)), (3, ((0, 1), (2, 0), (2, 1))))

    def check_cut(self, order, a, b):
        told = cut(order, a, b)
        things = plain_between(order, a, b)
        self.assertIs(type(told), Order)
        self.assertEqual(told.count, len(things))
        for low, high in product(range(len(things)), repeat=2):
            self.assertIs(told.at_most(low, high), order.at_most(things[low], things[high]))
            self.assertEqual(things[told.join(low, high)], order.join(things[low], things[high]))
            self.assertEqual(things[told.meet(low, high)], order.meet(things[low], things[high]))
        self.assertEqual((things[told.lowest()], things[told.highest()]), (a, b))

    def test_all_two_things_of_samples(self):
        for order in all_samples() + small_orders(6):
            kept = shape(order)
            for a, b in things_twice(order):
                if order.at_most(a, b):
                    self.check_cut(order, a, b)
                else:
                    self.assertEqual(answer(cut, order, a, b), ("NoPart",))
            self.assertEqual(shape(order), kept)

    def test_the_whole(self):
        for order in all_samples():
            self.assertEqual(shape(cut(order, order.lowest(), order.highest())), shape(order))

    def test_cuts_of_even_orders_are_even(self):
        for order in even_orders():
            for a, b in things_twice(order):
                if order.at_most(a, b):
                    part = cut(order, a, b)
                    self.assertTrue(plain_even(part))
                    self.assertIs(evenness(part)[0], True)

    def test_a_cut_of_an_uneven_order_may_be_either(self):
        self.assertIs(evenness(cut(side_way(), 0, 3))[0], True)
        self.assertIs(evenness(cut(beside(side_way(), row_of(2)), 0, 8))[0], False)


class RaisedTest(unittest.TestCase):
    def test_some(self):
        self.assertEqual(raised(square(), 1, 2), [(0, 2, 0), (1, 3, 1)])
        self.assertEqual(raised(square(), 2, 1), [(0, 1, 0), (2, 3, 2)])
        self.assertEqual(raised(square(), 3, 0), [(0, 0, 0), (1, 1, 1), (2, 2, 2), (3, 3, 3)])
        self.assertEqual(raised(square(), 0, 3), [(0, 3, 0)])
        self.assertEqual(raised(square(), 1, 1), [(1, 1, 1)])
        self.assertEqual(raised(one_thing(), 0, 0), [(0, 0, 0)])

    def test_an_uneven_order(self):
        self.assertEqual(raised(side_way(), 3, 2), [(0, 2, 0), (1, 4, 3), (3, 4, 3)])
        self.assertEqual(raised(side_way(), 2, 3), [(0, 3, 0), (2, 4, 2)])

    def test_all_two_things_of_samples(self):
        for order in all_samples() + small_orders(6):
            kept = shape(order)
            for a, b in things_twice(order):
                expected = []
                for x in plain_between(order, order.meet(a, b), a):
                    expected.append((x, order.join(x, b), order.meet(order.join(x, b), a)))
                told = raised(order, a, b)
                self.assertEqual(told, expected)
                self.assertIs(type(told), list)
                self.assertTrue(all(type(row) is tuple for row in told))
            self.assertEqual(shape(order), kept)

    def test_in_even_orders_both_sides_are_alike_thing_by_thing(self):
        for order in even_orders() + [order for order in small_orders(6) if plain_even(order)]:
            for a, b in things_twice(order):
                told = raised(order, a, b)
                self.assertTrue(all(z == x for x, y, z in told))
                self.assertEqual(sorted(y for x, y, z in told), plain_between(order, b, order.join(a, b)))
                for one, other in product(told, repeat=2):
                    self.assertIs(order.at_most(one[0], other[0]), order.at_most(one[1], other[1]))

    def test_in_uneven_orders_some_z_is_another_thing(self):
        for order in uneven_orders():
            self.assertTrue(any(z != x for a, b in things_twice(order) for x, y, z in raised(order, a, b)))

    def test_a_number_that_is_no_thing(self):
        for (a, b), first in NO_THINGS:
            with self.subTest(a=a, b=b):
                with self.assertRaises(NoThing) as caught:
                    raised(square(), a, b)
                self.assertEqual(caught.exception.thing, first)

    def test_a_told_list_is_the_askers_own(self):
        order = square()
        told = raised(order, 1, 2)
        told.append((9, 9, 9))
        told[0] = None
        self.assertEqual(raised(order, 1, 2), [(0, 2, 0), (1, 3, 1)])


class SideBySideTest(unittest.TestCase):
    def test_some(self):
        self.assertEqual(shape(side_by_side(row_of(2), row_of(2))), shape(square()))
        self.assertEqual(shape(side_by_side(one_thing(), one_thing())), (1, ()))
        self.assertEqual(shape(side_by_side(one_thing(), side_way())), shape(side_way()))
        self.assertEqual(shape(side_by_side(side_way(), one_thing())), shape(side_way()))

    def test_the_numbers_go_by_the_first_and_then_by_the_second(self):
        self.assertEqual(steps(side_by_side(row_of(2), row_of(3))),
                         [(0, 1), (0, 3), (1, 2), (1, 4), (2, 5), (3, 4), (4, 5)])
        self.assertEqual(steps(side_by_side(row_of(3), row_of(2))),
                         [(0, 1), (0, 2), (1, 3), (2, 3), (2, 4), (3, 5), (4, 5)])

    def check_both(self, one, other):
        told = side_by_side(one, other)
        self.assertIs(type(told), Order)
        self.assertEqual(told.count, one.count * other.count)
        for (a, b), (c, d) in product(product(range(one.count), range(other.count)), repeat=2):
            low, high = a * other.count + b, c * other.count + d
            self.assertIs(told.at_most(low, high), one.at_most(a, c) and other.at_most(b, d))
            self.assertEqual(told.join(low, high), one.join(a, c) * other.count + other.join(b, d))
            self.assertEqual(told.meet(low, high), one.meet(a, c) * other.count + other.meet(b, d))
        both = plain_even(one) and plain_even(other)
        self.assertIs(uneven(told) is None, both)
        self.assertIs(plain_even(told), both)

    def test_any_two_samples_of_at_most_twenty_four_together(self):
        orders = [one_thing(), row_of(2), row_of(3), row_of(4), row_of(12), row_of(24), square(), flat(5), side_way(),
                  hexagon(), mixed_cube(), renumbered(hexagon(), 5), Order(4, [(3, 1), (3, 2), (1, 0), (2, 0)]),
                  renumbered(side_way(), 3), fields_order(), ways_to_part_four()]
        kept = [shape(order) for order in orders]
        for one, other in product(orders, repeat=2):
            if one.count * other.count <= 24:
                self.check_both(one, other)
            else:
                self.assertEqual(answer(side_by_side, one, other), ("NoCount",))
        self.assertEqual([shape(order) for order in orders], kept)

    def test_exactly_twenty_four(self):
        for one, other in ((4, 6), (6, 4), (3, 8), (12, 2), (24, 1), (1, 24)):
            told = side_by_side(row_of(one), row_of(other))
            self.assertEqual(told.count, 24)
            self.assertEqual(shape(told), shape(beside(row_of(one), row_of(other))))

    def test_more_than_twenty_four(self):
        for one, other in ((5, 5), (13, 2), (2, 13), (24, 2), (2, 24), (24, 24), (9, 3)):
            with self.assertRaises(NoCount):
                side_by_side(row_of(one), row_of(other))

    def test_an_order_beside_itself(self):
        order = square()
        told = side_by_side(order, order)
        self.assertEqual(shape(told), shape(beside(square(), square())))
        self.assertEqual(shape(order), shape(square()))


class TurnedTest(unittest.TestCase):
    def test_some(self):
        self.assertEqual(shape(turned(row_of(3))), (3, ((1, 0), (2, 0), (2, 1))))
        self.assertEqual(shape(turned(one_thing())), (1, ()))
        self.assertEqual(steps(turned(side_way())), [(1, 0), (2, 0), (3, 1), (4, 2), (4, 3)])

    def test_all_samples(self):
        for order in all_samples() + small_orders(6):
            kept = shape(order)
            told = turned(order)
            self.assertIs(type(told), Order)
            self.assertEqual(told.count, order.count)
            for a, b in things_twice(order):
                self.assertIs(told.at_most(a, b), order.at_most(b, a))
                self.assertEqual((told.join(a, b), told.meet(a, b)), (order.meet(a, b), order.join(a, b)))
            self.assertEqual((told.lowest(), told.highest()), (order.highest(), order.lowest()))
            self.assertEqual(shape(turned(told)), kept)
            self.assertEqual(shape(order), kept)

    def test_even_just_where_the_order_is(self):
        for order in even_orders():
            self.assertIsNone(uneven(turned(order)))
            self.assertTrue(plain_even(turned(order)))
        for order in uneven_orders():
            self.assertIsNotNone(uneven(turned(order)))
            self.assertFalse(plain_even(turned(order)))


if __name__ == "__main__":
    unittest.main()
