"""Points 2, 4 and 17: two chains made longer until their parts match."""

import unittest
from itertools import product

from evenclimb.errors import NoChain, NoEnds, NotEven
from evenclimb.longer import longer
from helper import (FORTY_FIGURES, bars, carried_up, even_orders, fields_order, flat, mixed_cube, one_thing, parts,
                    plain_chains, plain_climbs, row_of, side_way, small_orders, square, things_twice, uneven_orders)


def thinned(climb):
    """Some chains of things of the climb, with its first and its last thing."""
    inner = climb[1:-1]
    ends = climb[:1], climb[1:][-1:]
    return [ends[0] + chosen + ends[1] for chosen in (inner, [], inner[::2], inner[1::2], inner[::3], inner[2:])]


class LongerTest(unittest.TestCase):
    def check_chain(self, order, made, chain):
        self.assertIs(type(made), list)
        self.assertEqual((made[0], made[-1]), (chain[0], chain[-1]))
        self.assertEqual([thing for thing in made if thing in chain], chain)
        for part in parts(made):
            self.assertIn(part, order.pairs)

    def check_longer(self, order, one, other):
        told = longer(order, one, other)
        self.assertIs(type(told), tuple)
        longer_one, longer_other, rows = told
        self.check_chain(order, longer_one, one)
        self.check_chain(order, longer_other, other)
        self.assertEqual(len(longer_one), len(longer_other))
        self.assertIs(type(rows), list)
        self.assertEqual(len(rows), len(longer_one) - 1)
        self.assertEqual(sorted(row[0] for row in rows), list(range(len(longer_other) - 1)))
        for part, row in zip(parts(longer_one), rows):
            self.assertIs(type(row), tuple)
            number, low, high = row
            self.assertIn((low, high), order.pairs)
            self.assertTrue(carried_up(order, (low, high), part))
            self.assertTrue(carried_up(order, (low, high), parts(longer_other)[number]))

    def test_some(self):
        self.assertEqual(longer(square(), [2], [2]), ([2], [2], []))
        self.assertEqual(longer(one_thing(), [0], [0]), ([0], [0], []))
        self.assertEqual(longer(square(), [0, 3], [0, 3]), ([0, 3], [0, 3], [(0, 0, 3)]))
        self.assertEqual(longer(square(), [0, 1, 3], [0, 2, 3]), ([0, 1, 3], [0, 2, 3], [(1, 0, 1), (0, 0, 2)]))
        self.assertEqual(longer(row_of(5), [0, 1, 4], [0, 3, 4]),
                         ([0, 1, 3, 4], [0, 1, 3, 4], [(0, 0, 1), (1, 1, 3), (2, 3, 4)]))

    def test_any_two_chains_of_small_even_orders(self):
        evens = [order for order in small_orders(6) if not any(bars(order, five) for five in product(range(6), repeat=5))]
        for order in evens + [flat(7), mixed_cube()]:
            for a, b in things_twice(order):
                for one, other in product(plain_chains(order, a, b), repeat=2):
                    self.check_longer(order, one, other)

    def test_any_two_chains_of_the_fields_of_three(self):
        order = fields_order()
        for one, other in product(plain_chains(order, 0, 15), repeat=2):
            self.check_longer(order, one, other)

    def test_chains_of_even_orders_up_to_twenty_four_things(self):
        for order in even_orders():
            climbs = plain_climbs(order, order.lowest(), order.highest())
            for one, other in product(climbs[::37] + climbs[-1:], climbs[::41] + climbs[1:2]):
                for thin_one, thin_other in product(thinned(one), thinned(other)):
                    self.check_longer(order, thin_one, thin_other)

    def test_what_is_no_chain(self):
        for things in ([], [0, 0], [3, 1], [1, 2], [4], [-1], [0, 1, 4], [0, -1], [FORTY_FIGURES], [0, True, 3],
                       [0, 1, 1, 3], [0, 1, 2, 3]):
            for chain in ([0, 1, 3], [0, 3], [2]):
                with self.subTest(things=things):
                    with self.assertRaises(NoChain):
                        longer(square(), things, chain)
                    with self.assertRaises(NoChain):
                        longer(square(), chain, things)
                    with self.assertRaises(NoChain):
                        longer(square(), things, things)

    def test_unlike_ends(self):
        for one, other in (([0, 1], [0, 2]), ([0, 3], [0, 1]), ([1, 3], [2, 3]), ([0, 1, 3], [1, 3]), ([1], [2]),
                           ([0, 1], [2, 3])):
            with self.subTest(one=one, other=other):
                with self.assertRaises(NoEnds):
                    longer(square(), one, other)
                with self.assertRaises(NoEnds):
                    longer(square(), other, one)

    def test_an_order_that_is_not_even(self):
        for order in uneven_orders():
            chain = [order.lowest(), order.highest()]
            climb = plain_climbs(order, chain[0], chain[1])[0]
            for one, other in ((chain, chain), (climb, chain), (chain, climb), ([0], [0])):
                with self.assertRaises(NotEven) as caught:
                    longer(order, one, other)
                self.assertIs(type(caught.exception.five), tuple)
                self.assertEqual(len(caught.exception.five), 5)
                self.assertTrue(bars(order, caught.exception.five))

    def test_the_order_of_the_refusals(self):
        # The order is not even in all of these.
        for one, other in (([0, 1, 2], [1, 3]), ([0, 1], [1, 0]), ([], [0]), ([5], [5]), ([2, 3], [2, 3])):
            with self.assertRaises(NoChain):
                longer(side_way(), one, other)
        for one, other in (([0, 1], [0, 2]), ([1, 3], [3]), ([2, 4], [3, 4]), ([0, 4], [0, 3])):
            with self.assertRaises(NoEnds):
                longer(side_way(), one, other)
        # A list that is no chain, beside a chain with other ends.
        with self.assertRaises(NoChain):
            longer(square(), [0, 1], [1, 2])
        with self.assertRaises(NoChain):
            longer(square(), [1, 0], [1])

    def test_lists_stay_as_they_were(self):
        order = mixed_cube()
        one, other = [5, 4, 3], [5, 7, 6, 3]
        told = longer(order, one, other)
        self.assertEqual((one, other), ([5, 4, 3], [5, 7, 6, 3]))
        kept = (list(told[0]), list(told[1]), list(told[2]))
        told[0].append(9)
        told[1].clear()
        told[2][0] = (9, 9, 9)
        self.assertEqual(longer(order, one, other), kept)
        self.assertEqual((one, other), ([5, 4, 3], [5, 7, 6, 3]))

    def test_told_chains_are_new_lists(self):
        order = row_of(4)
        chain = [0, 2, 3]
        told = longer(order, chain, chain)
        told[0].append(9)
        self.assertEqual((chain, told[1]), ([0, 2, 3], [0, 2, 3]))
        told[1].clear()
        self.assertEqual(chain, [0, 2, 3])


if __name__ == "__main__":
    unittest.main()
