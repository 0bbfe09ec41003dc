"""Points 2, 3, 5 and 6: how orders are made, and what they tell."""

import unittest

from evenclimb.errors import NoCount, NoJoin, NoOrder, NoThing
from evenclimb.orders import Order
from helper import (FORTY_FIGURES, flat, follows, four_fold, mixed_cube, one_thing, plain_answer, plain_join, plain_meet,
                    row_of, samples, side_way, small_lists, square, things_twice, told_answer)


class MakingTest(unittest.TestCase):
    def refused(self, kind, count, pairs):
        with self.assertRaises(kind) as caught:
            Order(count, pairs)
        self.assertIs(type(caught.exception), kind)
        return caught.exception

    def test_counts_at_the_edges(self):
        self.assertEqual((one_thing().count, one_thing().pairs), (1, ()))
        longest = row_of(24)
        self.assertEqual(longest.count, 24)
        self.assertEqual(len(longest.pairs), 24 * 23 // 2)

    def test_other_counts(self):
        for count in (0, 25, -1, -24, FORTY_FIGURES, -FORTY_FIGURES, 10 ** 39):
            with self.subTest(count=count):
                self.refused(NoCount, count, [])

    def test_a_truth_is_no_whole_number(self):
        self.refused(NoCount, True, [])
        self.refused(NoCount, False, [])
        for pair in ((True, 0), (0, True), (False, 1)):
            self.refused(NoThing, 2, [(0, 1), pair])

    def test_pairs_told_twice(self):
        twice = Order(3, [(0, 1), (1, 2), (0, 1), (1, 2), (0, 1)])
        self.assertEqual(twice.pairs, ((0, 1), (0, 2), (1, 2)))

    def test_a_pair_of_a_thing_and_itself_says_nothing(self):
        self.assertEqual(Order(2, [(1, 1), (0, 1), (0, 0)]).pairs, ((0, 1),))
        self.assertEqual(Order(1, [(0, 0)]).pairs, ())
        self.assertEqual(self.refused(NoJoin, 2, [(0, 0), (1, 1)]).things, (0, 1))

    def test_no_thing_is_the_first_in_the_list(self):
        self.assertEqual(self.refused(NoThing, 2, [(0, 1), (0, 2), (-1, 0)]).thing, 2)
        self.assertEqual(self.refused(NoThing, 2, [(0, 1), (-1, 2)]).thing, -1)
        self.assertEqual(self.refused(NoThing, 2, [(0, 5), (7, 1)]).thing, 5)
        self.assertEqual(self.refused(NoThing, 2, [(7, 5)]).thing, 7)
        self.assertEqual(self.refused(NoThing, 24, [(0, 24)]).thing, 24)
        self.assertEqual(self.refused(NoThing, 3, [(FORTY_FIGURES, 0)]).thing, FORTY_FIGURES)
        self.assertEqual(self.refused(NoThing, 3, [(0, -FORTY_FIGURES)]).thing, -FORTY_FIGURES)

    def test_no_thing_in_a_pair_of_it_and_itself(self):
        self.assertEqual(self.refused(NoThing, 2, [(0, 1), (2, 2)]).thing, 2)
        self.assertEqual(self.refused(NoThing, 1, [(-1, -1)]).thing, -1)

    def test_two_things_below_each_other(self):
        self.assertEqual(self.refused(NoOrder, 2, [(0, 1), (1, 0)]).things, (0, 1))
        self.assertEqual(self.refused(NoOrder, 2, [(1, 0), (0, 1)]).things, (0, 1))

    def test_a_ring_is_refused_by_its_least_two(self):
        self.assertEqual(self.refused(NoOrder, 6, [(4, 2), (2, 5), (5, 4)]).things, (2, 4))
        self.assertEqual(self.refused(NoOrder, 6, [(3, 5), (5, 3), (4, 1), (1, 4)]).things, (1, 4))
        self.assertEqual(self.refused(NoOrder, 6, [(1, 5), (5, 1), (2, 3), (3, 2)]).things, (1, 5))
        ring = [(thing, (thing + 1) % 24) for thing in range(24)]
        self.assertEqual(self.refused(NoOrder, 24, ring).things, (0, 1))

    def test_two_things_without_a_join(self):
        self.assertEqual(self.refused(NoJoin, 3, [(0, 1), (0, 2)]).things, (1, 2))

    def test_two_things_without_a_meet(self):
        self.assertEqual(self.refused(NoJoin, 3, [(0, 2), (1, 2)]).things, (0, 1))

    def test_several_things_above_and_none_of_them_least(self):
        both_ways = [(0, 1), (0, 2), (1, 3), (1, 4), (2, 3), (2, 4), (3, 5), (4, 5)]
        self.assertEqual(self.refused(NoJoin, 6, both_ways).things, (1, 2))

    def test_the_least_two_whether_join_or_meet_is_wanting(self):
        # 0 and 1 have a join and no meet; 3 and 4 have a meet and no join.
        self.assertEqual(self.refused(NoJoin, 5, [(0, 2), (1, 2), (2, 3), (2, 4)]).things, (0, 1))
        # 0 and 1 have a meet and no join; 3 and 4 have a join and no meet.
        self.assertEqual(self.refused(NoJoin, 5, [(2, 0), (2, 1), (3, 2), (4, 2)]).things, (0, 1))

    def test_the_order_of_the_refusals(self):
        self.refused(NoCount, 0, [(0, 5), (0, 1), (1, 0)])
        self.refused(NoCount, 25, [(0, 25), (0, 1), (1, 0)])
        self.assertEqual(self.refused(NoThing, 4, [(0, 1), (1, 0), (2, 4)]).thing, 4)
        self.assertEqual(self.refused(NoOrder, 5, [(3, 4), (4, 3)]).things, (3, 4))
        self.assertEqual(self.refused(NoThing, 5, [(-2, -2)]).thing, -2)

    def test_fields_are_tuples(self):
        self.assertIs(type(self.refused(NoOrder, 2, [(0, 1), (1, 0)]).things), tuple)
        self.assertIs(type(self.refused(NoJoin, 2, []).things), tuple)

    def test_all_small_lists_against_a_plain_reckoning(self):
        # 1, 2, 6 and 36 orders with joins and meets have 1 to 4 numbered things.
        for count, orders in ((1, 1), (2, 2), (3, 6), (4, 36)):
            made = set()
            for pairs in small_lists(count):
                expected = plain_answer(count, pairs)
                self.assertEqual(told_answer(count, pairs), expected, (count, pairs))
                if expected[0] == "Order":
                    made.add(expected[1])
            self.assertEqual(len(made), orders)


class FieldsTest(unittest.TestCase):
    def test_pairs_have_what_follows_and_rise(self):
        order = Order(5, [(4, 3), (3, 0), (0, 2), (2, 1)])
        self.assertEqual(order.pairs, ((0, 1), (0, 2), (2, 1), (3, 0), (3, 1), (3, 2), (4, 0), (4, 1), (4, 2), (4, 3)))

    def test_kinds(self):
        for order in samples():
            self.assertIs(type(order.count), int)
            self.assertIs(type(order.pairs), tuple)
            self.assertTrue(all(type(pair) is tuple for pair in order.pairs))
            self.assertEqual(list(order.pairs), sorted(order.pairs))

    def test_the_list_handed_in_is_not_changed(self):
        pairs = [(2, 1), (0, 2), (0, 0), (0, 2)]
        Order(3, pairs)
        self.assertEqual(pairs, [(2, 1), (0, 2), (0, 0), (0, 2)])

    def test_a_refused_list_is_not_changed(self):
        for pairs in ([(1, 0), (0, 1)], [(0, 0), (0, 9)], []):
            kept = list(pairs)
            with self.assertRaises(ValueError):
                Order(2, pairs)
            self.assertEqual(pairs, kept)

    def test_a_list_changed_behind_the_call(self):
        pairs = [(0, 1), (1, 2)]
        order = Order(3, pairs)
        pairs.append((2, 0))
        pairs[0] = (1, 0)
        self.assertEqual(order.pairs, ((0, 1), (0, 2), (1, 2)))
        self.assertIs(order.at_most(0, 1), True)
        self.assertEqual((order.join(0, 1), order.meet(0, 1)), (1, 0))
        pairs.clear()
        self.assertEqual((order.lowest(), order.highest()), (0, 2))

    def test_pairs_make_the_like_order_again(self):
        for order in samples():
            again = Order(order.count, list(order.pairs))
            self.assertEqual((again.count, again.pairs), (order.count, order.pairs))


class AskingTest(unittest.TestCase):
    def test_at_most_tells_true_or_false(self):
        order = square()
        for a, b, told in ((0, 0, True), (0, 3, True), (1, 3, True), (3, 0, False), (1, 2, False), (2, 1, False)):
            self.assertIs(order.at_most(a, b), told)

    def test_join_and_meet(self):
        order = square()
        self.assertEqual((order.join(1, 2), order.join(2, 1)), (3, 3))
        self.assertEqual((order.meet(1, 2), order.meet(2, 1)), (0, 0))
        self.assertEqual((order.join(0, 1), order.join(1, 0)), (1, 1))
        self.assertEqual((order.meet(3, 1), order.meet(1, 3)), (1, 1))
        self.assertEqual([order.join(thing, thing) for thing in range(4)], [0, 1, 2, 3])
        self.assertEqual([order.meet(thing, thing) for thing in range(4)], [0, 1, 2, 3])

    def test_join_and_meet_where_numbers_do_not_rise_with_the_order(self):
        order = side_way()
        self.assertEqual((order.join(1, 2), order.join(3, 2), order.meet(3, 2), order.meet(1, 2)), (4, 4, 0, 0))
        turned = Order(4, [(3, 1), (3, 2), (1, 0), (2, 0)])
        self.assertEqual((turned.join(1, 2), turned.meet(1, 2), turned.join(3, 1), turned.meet(0, 2)), (0, 3, 1, 2))

    def test_all_of_the_samples_against_a_plain_reckoning(self):
        for order in samples():
            known = follows(order.count, order.pairs)
            for a, b in things_twice(order):
                self.assertIs(order.at_most(a, b), (a, b) in known)
                self.assertEqual(order.join(a, b), plain_join(order.count, known, a, b))
                self.assertEqual(order.meet(a, b), plain_meet(order.count, known, a, b))

    def test_lowest_and_highest(self):
        told = [(order.lowest(), order.highest()) for order in (one_thing(), square(), flat(7), four_fold())]
        self.assertEqual(told, [(0, 0), (0, 3), (0, 6), (0, 23)])
        self.assertEqual((mixed_cube().lowest(), mixed_cube().highest()), (5, 3))
        self.assertEqual((Order(3, [(1, 2), (2, 0)]).lowest(), Order(3, [(1, 2), (2, 0)]).highest()), (1, 0))

    def test_a_number_that_is_no_thing(self):
        order = square()
        for ask in (order.at_most, order.join, order.meet):
            for a, b, first in ((4, 0, 4), (0, 4, 4), (-1, 0, -1), (0, -1, -1), (5, -1, 5), (-1, 5, -1), (4, 4, 4),
                                (FORTY_FIGURES, 0, FORTY_FIGURES), (3, -FORTY_FIGURES, -FORTY_FIGURES)):
                with self.subTest(a=a, b=b):
                    with self.assertRaises(NoThing) as caught:
                        ask(a, b)
                    self.assertEqual(caught.exception.thing, first)

    def test_a_truth_is_no_thing(self):
        for ask in (square().at_most, square().join, square().meet):
            for a, b in ((True, 0), (0, False)):
                with self.assertRaises(NoThing):
                    ask(a, b)

    def test_who_asks_again_is_told_the_same(self):
        order = mixed_cube()
        first = [(order.join(a, b), order.meet(a, b), order.at_most(a, b)) for a, b in things_twice(order)]
        with self.assertRaises(NoThing):
            order.join(8, 0)
        again = [(order.join(a, b), order.meet(a, b), order.at_most(a, b)) for a, b in things_twice(order)]
        self.assertEqual(first, again)


if __name__ == "__main__":
    unittest.main()
