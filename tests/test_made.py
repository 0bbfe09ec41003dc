"""Points 2, 21 and 22: orders of numbers that divide one another, and of fields of rows of noughts and ones."""

import unittest
from itertools import combinations, product

from evenclimb.climbs import how_many, steps
from evenclimb.errors import NoNumber
from evenclimb.even import evenness
from evenclimb.made import dividers, dividing, fields_of, sums_order
from evenclimb.orders import Order
from helper import FORTY_FIGURES, answer, fields_order, plain_even, row_of, shape, square

MILLION = 1000000


def plain_dividers(number):
    return [other for other in range(1, number + 1) if number % other == 0]


def how_many_divide(most):
    """For each number from 0 how many numbers divide it, reckoned by walking the rows of 1, of 2, of 3 .."""
    counts = [0] * (most + 1)
    for divider in range(1, most + 1):
        for number in range(divider, most + 1, divider):
            counts[number] += 1
    return counts


def plain_fields(width):
    """All fields, found by looking at each set of rows, in the order that point 22 tells."""
    rows = range(2 ** width)
    fields = []
    for size in range(2 ** width + 1):
        for chosen in combinations(rows, size):
            if 0 in chosen and all(one ^ other in chosen for one in chosen for other in chosen):
                fields.append(chosen)
    return fields


class DividersTest(unittest.TestCase):
    def test_one(self):
        self.assertEqual(dividers(1), [1])
        self.assertEqual(shape(dividing(1)), (1, ()))

    def test_primes(self):
        for prime in (2, 3, 5, 97, 997, 1009, 999983):
            self.assertEqual(dividers(prime), [1, prime])
            self.assertEqual(shape(dividing(prime)), (2, ((0, 1),)))

    def test_powers(self):
        for number, power in ((2, 19), (3, 12), (5, 8), (7, 7), (31, 4), (97, 3), (997, 2)):
            self.assertEqual(dividers(number ** power), [number ** k for k in range(power + 1)])
            self.assertEqual(shape(dividing(number ** power)), shape(row_of(power + 1)))

    def test_squares_have_their_root_once(self):
        self.assertEqual(dividers(36), [1, 2, 3, 4, 6, 9, 12, 18, 36])
        self.assertEqual(dividers(994009), [1, 997, 994009])
        # 997 times 1003, which is 17 times 59: just below the million.
        self.assertEqual(dividers(999991), [1, 17, 59, 997, 1003, 16949, 58823, 999991])

    def test_some(self):
        self.assertEqual(dividers(6), [1, 2, 3, 6])
        self.assertEqual(shape(dividing(6)), shape(square()))
        self.assertEqual(dividers(12), [1, 2, 3, 4, 6, 12])
        self.assertEqual(steps(dividing(12)), [(0, 1), (0, 2), (1, 3), (1, 4), (2, 4), (3, 5), (4, 5)])

    def test_all_small_numbers(self):
        for number in range(1, 1301):
            expected = plain_dividers(number)
            if len(expected) > 24:
                expected = ("NoNumber",)
            self.assertEqual(answer(dividers, number), expected)

    def test_how_many_there_are_up_to_the_million(self):
        counts = how_many_divide(MILLION)
        # Each number that is tried has its own count of dividers or its own place; the last ones are all tried.
        tried = set(range(1, MILLION + 1, 997)) | set(range(MILLION - 200, MILLION + 1))
        tried |= {counts.index(count) for count in set(counts[1:])}
        for number in sorted(tried):
            told = answer(dividers, number)
            if counts[number] > 24:
                self.assertEqual(told, ("NoNumber",))
            else:
                self.assertEqual(len(told), counts[number])
                self.assertEqual(told, sorted(set(told)))
                self.assertTrue(all(number % other == 0 for other in told))

    def test_exactly_twenty_four(self):
        for number in (360, 420, 480, 6144, 1152):
            self.assertEqual(dividers(number), plain_dividers(number))
            self.assertEqual(len(dividers(number)), 24)
            self.assertEqual(dividing(number).count, 24)

    def test_more_than_twenty_four(self):
        # 25, 27, 28, 30, 32, 49, 240 and 240 numbers divide these.
        for number in (1296, 900, 960, 720, 840, MILLION, 720720, 997920):
            for ask in (dividers, dividing):
                with self.subTest(number=number):
                    with self.assertRaises(NoNumber):
                        ask(number)

    def test_numbers_beyond_the_bounds(self):
        for number in (0, -1, -6, -MILLION, MILLION + 1, MILLION + 3, 2 ** 20, FORTY_FIGURES, -FORTY_FIGURES, 10 ** 39):
            for ask in (dividers, dividing):
                with self.subTest(number=number):
                    with self.assertRaises(NoNumber):
                        ask(number)

    def test_dividing_against_a_plain_reckoning(self):
        for number in list(range(1, 200)) + [210, 360, 420, 6144, 1152, 999983, 999998]:
            numbers = plain_dividers(number)
            order = dividing(number)
            self.assertIs(type(order), Order)
            self.assertEqual(order.count, len(numbers))
            self.assertEqual(order.pairs, tuple((low, high) for low, high in product(range(len(numbers)), repeat=2)
                                                if low != high and numbers[high] % numbers[low] == 0))
            self.assertIs(evenness(order)[0], True)

    def test_heights_count_primes(self):
        self.assertEqual(evenness(dividing(12)), (True, [0, 1, 1, 2, 2, 3]))
        self.assertEqual(how_many(dividing(360), 0, 23), 60)

    def test_a_told_list_is_the_askers_own(self):
        told = dividers(12)
        told.append(5)
        told[0] = 7
        self.assertEqual(dividers(12), [1, 2, 3, 4, 6, 12])
        self.assertEqual(dividing(12).count, 6)


class FieldsTest(unittest.TestCase):
    def test_the_narrow_ones(self):
        self.assertEqual(fields_of(0), [(0,)])
        self.assertEqual(fields_of(1), [(0,), (0, 1)])
        self.assertEqual(fields_of(2), [(0,), (0, 1), (0, 2), (0, 3), (0, 1, 2, 3)])

    def test_all_sets_of_rows(self):
        for width, count in enumerate((1, 2, 5, 16)):
            told = fields_of(width)
            self.assertEqual(told, plain_fields(width))
            self.assertEqual(len(told), count)
            self.assertIs(type(told), list)
            self.assertTrue(all(type(field) is tuple for field in told))

    def test_the_order_in_the_list(self):
        told = fields_of(3)
        self.assertEqual([len(field) for field in told], [1] + [2] * 7 + [4] * 7 + [8])
        self.assertEqual(told[1:8], [(0, row) for row in range(1, 8)])
        self.assertEqual(told[8:15], [(0, 1, 2, 3), (0, 1, 4, 5), (0, 1, 6, 7), (0, 2, 4, 6), (0, 2, 5, 7), (0, 3, 4, 7),
                                      (0, 3, 5, 6)])

    def test_sums_order(self):
        for width in range(4):
            fields = plain_fields(width)
            order = sums_order(width)
            self.assertIs(type(order), Order)
            self.assertEqual(order.count, len(fields))
            self.assertEqual(order.pairs, tuple((low, high) for low, high in product(range(len(fields)), repeat=2)
                                                if low != high and set(fields[low]) < set(fields[high])))
        self.assertEqual(shape(sums_order(3)), shape(fields_order()))
        self.assertEqual(shape(sums_order(0)), (1, ()))

    def test_joins_and_meets(self):
        fields = fields_of(3)
        order = sums_order(3)
        for a, b in product(range(16), repeat=2):
            sums = sorted({one ^ other for one in fields[a] for other in fields[b]})
            both = sorted(set(fields[a]) & set(fields[b]))
            self.assertEqual(list(fields[order.join(a, b)]), sums)
            self.assertEqual(list(fields[order.meet(a, b)]), both)

    def test_these_orders_are_even(self):
        for width in range(4):
            told = evenness(sums_order(width))
            self.assertTrue(plain_even(sums_order(width)))
            # The rows of a field are as many as twos taken so many times as it is high.
            self.assertEqual(told, (True, [len(field).bit_length() - 1 for field in fields_of(width)]))

    def test_other_widths(self):
        for width in (4, 5, 24, -1, -2, -3, -4, FORTY_FIGURES, -FORTY_FIGURES):
            for ask in (fields_of, sums_order):
                with self.subTest(width=width):
                    with self.assertRaises(NoNumber):
                        ask(width)

    def test_a_told_list_is_the_askers_own(self):
        for width in range(4):
            told = fields_of(width)
            kept = fields_of(width)
            told.clear()
            self.assertEqual(kept, plain_fields(width))
            self.assertEqual(fields_of(width), plain_fields(width))


if __name__ == "__main__":
    unittest.main()
