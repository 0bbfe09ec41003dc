"""Points 2, 4 and 7 to 9: steps, chains and climbs."""

import unittest

from evenclimb.climbs import climb_at, how_many, is_chain, is_climb, number_of, steps
from evenclimb.errors import NoClimb, NoNumber, NoThing
from evenclimb.orders import Order
from helper import (FORTY_FIGURES, flat, four_fold, mixed_cube, one_thing, plain_climbs, plain_steps, row_of, samples,
                    side_way, square, things_twice)


class StepsTest(unittest.TestCase):
    def test_steps_rise(self):
        self.assertEqual(steps(square()), [(0, 1), (0, 2), (1, 3), (2, 3)])
        self.assertEqual(steps(Order(3, [(0, 1), (1, 2), (0, 2)])), [(0, 1), (1, 2)])
        self.assertEqual(steps(Order(3, [(2, 1), (1, 0), (2, 0)])), [(1, 0), (2, 1)])
        self.assertEqual(steps(side_way()), [(0, 1), (0, 2), (1, 3), (2, 4), (3, 4)])

    def test_one_thing_has_none(self):
        self.assertEqual(steps(one_thing()), [])

    def test_kinds(self):
        for order in samples():
            told = steps(order)
            self.assertIs(type(told), list)
            self.assertTrue(all(type(step) is tuple for step in told))
            self.assertEqual(told, plain_steps(order))

    def test_a_told_list_is_the_askers_own(self):
        order = square()
        told = steps(order)
        told.append((3, 0))
        told[0] = (9, 9)
        self.assertEqual(steps(order), [(0, 1), (0, 2), (1, 3), (2, 3)])
        self.assertEqual(how_many(order, 0, 3), 2)
        kept = steps(order)
        steps(order).clear()
        self.assertEqual(kept, [(0, 1), (0, 2), (1, 3), (2, 3)])


class ListsTest(unittest.TestCase):
    def test_the_empty_list_is_neither(self):
        self.assertIs(is_chain(square(), []), False)
        self.assertIs(is_climb(square(), []), False)

    def test_one_thing_is_both(self):
        for thing in range(4):
            self.assertIs(is_chain(square(), [thing]), True)
            self.assertIs(is_climb(square(), [thing]), True)

    def test_a_chain_that_is_no_climb(self):
        for things in ([0, 3], [0, 1, 4], [0, 4]):
            self.assertIs(is_chain(side_way(), things), True)
            self.assertIs(is_climb(side_way(), things), False)

    def test_climbs(self):
        for things in ([0, 1, 3, 4], [0, 2, 4], [1, 3], [2, 4], [0, 1]):
            self.assertIs(is_chain(side_way(), things), True)
            self.assertIs(is_climb(side_way(), things), True)

    def test_lists_that_are_neither(self):
        for things in ([0, 0], [0, 1, 1, 3], [1, 2], [3, 0], [0, 1, 2], [0, 1, 0], [1, 3, 1], [3, 1, 0]):
            self.assertIs(is_chain(square(), things), False)
            self.assertIs(is_climb(square(), things), False)

    def test_a_number_that_is_no_thing(self):
        for things in ([4], [-1], [0, 4], [-4, 1], [0, 1, -1], [4, 0], [FORTY_FIGURES], [0, -FORTY_FIGURES], [True]):
            self.assertIs(is_chain(square(), things), False)
            self.assertIs(is_climb(square(), things), False)

    def test_lists_as_long_as_the_bound(self):
        self.assertIs(is_chain(row_of(24), list(range(24))), True)
        self.assertIs(is_climb(row_of(24), list(range(24))), True)
        self.assertIs(is_chain(row_of(24), list(range(24)) * 5), False)
        self.assertIs(is_climb(row_of(24), [0] * 120), False)

    def test_nothing_handed_in_is_changed(self):
        things = [0, 1, 3]
        is_chain(square(), things)
        is_climb(square(), things)
        number_of(square(), things)
        self.assertEqual(things, [0, 1, 3])

    def test_every_short_list_against_a_plain_reckoning(self):
        for order in (square(), side_way(), mixed_cube()):
            known = plain_steps(order)
            for a, b in things_twice(order):
                self.assertIs(is_chain(order, [a, b]), (a, b) in order.pairs)
                self.assertIs(is_climb(order, [a, b]), (a, b) in known)


class CountingTest(unittest.TestCase):
    def test_one_thing_with_itself(self):
        for order in samples():
            for thing in range(order.count):
                self.assertEqual(how_many(order, thing, thing), 1)
                self.assertEqual(climb_at(order, thing, thing, 0), [thing])
                self.assertEqual(number_of(order, [thing]), 0)

    def test_things_of_which_the_first_is_not_at_most_the_second(self):
        self.assertEqual([how_many(square(), a, b) for a, b in ((1, 2), (2, 1), (3, 0), (1, 0))], [0, 0, 0, 0])

    def test_from_the_lowest_to_the_highest(self):
        told = [how_many(order, order.lowest(), order.highest())
                for order in (one_thing(), row_of(24), square(), side_way(), mixed_cube(), four_fold(), flat(24))]
        self.assertEqual(told, [1, 1, 2, 2, 6, 24, 22])

    def test_many_climbs(self):
        # Five blocks, each of three things side by side with one thing above them.
        pairs = []
        for low in range(0, 20, 4):
            pairs += [(low, low + side) for side in (1, 2, 3)] + [(low + side, low + 4) for side in (1, 2, 3)]
        order = Order(21, pairs)
        self.assertEqual(how_many(order, 0, 20), 3 ** 5)
        self.assertEqual([climb_at(order, 0, 20, number) for number in range(3 ** 5)], plain_climbs(order, 0, 20))
        self.assertEqual(number_of(order, [0, 3, 4, 5, 8, 10, 12, 13, 16, 19, 20]), 2 * 81 + 9 + 2)

    def test_climbs_are_counted_as_they_are_told(self):
        for order in samples():
            for a, b in things_twice(order):
                climbs = plain_climbs(order, a, b)
                self.assertEqual(how_many(order, a, b), len(climbs))
                self.assertEqual([climb_at(order, a, b, number) for number in range(len(climbs))], climbs)
                self.assertEqual([number_of(order, climb) for climb in climbs], list(range(len(climbs))))
                with self.assertRaises(NoNumber):
                    climb_at(order, a, b, len(climbs))

    def test_the_lesser_thing_comes_first(self):
        self.assertEqual([climb_at(side_way(), 0, 4, number) for number in (0, 1)], [[0, 1, 3, 4], [0, 2, 4]])
        turned = Order(5, [(0, 2), (2, 3), (3, 4), (0, 1), (1, 4)])
        self.assertEqual([climb_at(turned, 0, 4, number) for number in (0, 1)], [[0, 1, 4], [0, 2, 3, 4]])

    def test_how_many_refuses(self):
        for a, b, first in ((4, 0, 4), (0, 4, 4), (-1, 9, -1), (9, -1, 9), (0, -1, -1), (FORTY_FIGURES, 0, FORTY_FIGURES)):
            with self.assertRaises(NoThing) as caught:
                how_many(square(), a, b)
            self.assertEqual(caught.exception.thing, first)

    def test_a_number_that_no_climb_has(self):
        for a, b, number in ((0, 3, -1), (0, 3, 2), (0, 3, 3), (0, 3, -2), (0, 3, FORTY_FIGURES), (0, 3, -FORTY_FIGURES),
                             (1, 2, 0), (3, 0, 0), (1, 1, 1), (1, 1, -1), (0, 3, True)):
            with self.subTest(a=a, b=b, number=number):
                with self.assertRaises(NoNumber):
                    climb_at(square(), a, b, number)

    def test_no_thing_is_refused_ahead_of_no_number(self):
        for a, b, number, first in ((4, 0, -1, 4), (0, 4, 99, 4), (-1, 4, 0, -1), (7, -1, FORTY_FIGURES, 7), (0, -1, 0, -1)):
            with self.assertRaises(NoThing) as caught:
                climb_at(square(), a, b, number)
            self.assertEqual(caught.exception.thing, first)

    def test_what_is_no_climb(self):
        for things in ([], [0, 3], [0, 0], [3, 1], [1, 2], [4], [-1], [0, 1, 4], [-1, 3], [FORTY_FIGURES]):
            with self.subTest(things=things):
                with self.assertRaises(NoClimb):
                    number_of(square(), things)

    def test_a_told_climb_is_the_askers_own(self):
        order = square()
        told = climb_at(order, 0, 3, 0)
        self.assertIs(type(told), list)
        kept = list(told)
        told.append(9)
        told[0] = 7
        self.assertEqual(climb_at(order, 0, 3, 0), kept)
        self.assertEqual(number_of(order, kept), 0)

    def test_what_is_refused_changes_nothing(self):
        order = side_way()
        for ask in (lambda: how_many(order, 5, 0), lambda: climb_at(order, 0, 4, 2), lambda: number_of(order, [0, 4])):
            with self.assertRaises(ValueError):
                ask()
        self.assertEqual((order.count, steps(order)), (5, [(0, 1), (0, 2), (1, 3), (2, 4), (3, 4)]))
        self.assertEqual((how_many(order, 0, 4), climb_at(order, 0, 4, 1), number_of(order, [0, 2, 4])), (2, [0, 2, 4], 1))


if __name__ == "__main__":
    unittest.main()
