"""Points 1 to 4 and the interface: what is promised over the whole program."""

import copy
import importlib
import inspect
import unittest
from itertools import product

from evenclimb.climbs import climb_at, how_many, is_chain, is_climb, number_of, steps
from evenclimb.desk import Desk
from evenclimb.even import evenness, is_five, uneven
from evenclimb.exchanges import exchanged, exchanges, led
from evenclimb.longer import longer
from evenclimb.made import dividers, dividing, fields_of, sums_order
from evenclimb.orders import Order
from evenclimb.pairs import carried, paired
from evenclimb.parts import between, cut, raised, side_by_side, turned
from evenclimb.texts import order_text, read_order
from helper import (FORTY_FIGURES, answer, bars, carried_up, even_orders, hexagon, mixed_cube, parts, plain_climbs,
                    plain_even, row_of, shape, side_way, small_orders, square, things_twice, uneven_orders)

INTERFACE = {
    "orders": {"Order": "count pairs"},
    "climbs": {"steps": "order", "is_chain": "order things", "is_climb": "order things", "how_many": "order a b",
               "climb_at": "order a b number", "number_of": "order climb"},
    "even": {"uneven": "order", "is_five": "order five", "evenness": "order"},
    "exchanges": {"exchanges": "order climb", "exchanged": "order climb exchange", "led": "order one other"},
    "pairs": {"carried": "order one other", "paired": "order one other"},
    "longer": {"longer": "order one other"},
    "parts": {"between": "order a b", "cut": "order a b", "raised": "order a b", "side_by_side": "one other",
              "turned": "order"},
    "made": {"dividers": "number", "dividing": "number", "fields_of": "width", "sums_order": "width"},
    "texts": {"order_text": "order", "read_order": "text"},
    "desk": {"Desk": ""},
}
METHODS = {"at_most": "a b", "join": "a b", "meet": "a b", "lowest": "", "highest": ""}


def order_asks(order, a, b):
    """What may be asked of an order and of two of its things or of other numbers, with what is handed in."""
    for ask in (order.at_most, order.join, order.meet):
        yield ask, (a, b)
    for ask in (how_many, between, cut, raised):
        yield ask, (order, a, b)
    for ask in (steps, uneven, evenness, turned, order_text):
        yield ask, (order,)
    yield climb_at, (order, a, b, 0)
    yield side_by_side, (order, order)
    yield side_by_side, (order, row_of(2))


def list_asks(order, one, other):
    """What may be asked of an order and of two lists of numbers."""
    for ask in (is_chain, is_climb, number_of, exchanges):
        yield ask, (order, one)
    for ask in (led, paired, longer):
        yield ask, (order, one, other)
    for ask in (lambda *given: exchanged(*given, (1, 2)), lambda *given: exchanged(*given, (0, 9))):
        yield ask, (order, one)
    yield lambda *given: carried(*given, tuple(one[:2]), tuple(other[-2:])), (order,)
    yield lambda *given: is_five(*given, tuple(one)), (order,)


def plain_form(value):
    """The value with each order in it told by its shape, copied all through."""
    if isinstance(value, Order):
        return ("an order", shape(value))
    if isinstance(value, (list, tuple)):
        return type(value)([plain_form(part) for part in value])
    return copy.deepcopy(value)


def lists_in(value):
    """All lists within a value, itself among them."""
    if isinstance(value, (list, tuple)):
        found = [value] if isinstance(value, list) else []
        return found + [inner for part in value for inner in lists_in(part)]
    return []


class InterfaceTest(unittest.TestCase):
    def names(self, what):
        return " ".join(inspect.signature(what).parameters)

    def test_names_and_arguments(self):
        for module, names in INTERFACE.items():
            there = importlib.import_module("evenclimb." + module)
            for name, arguments in names.items():
                with self.subTest(module=module, name=name):
                    self.assertEqual(self.names(getattr(there, name)), arguments)
                    self.assertEqual(getattr(there, name).__module__, "evenclimb." + module)
        for name, arguments in METHODS.items():
            self.assertEqual(self.names(getattr(square(), name)), arguments)
        self.assertEqual(self.names(Desk().tell), "line")

    def test_by_name(self):
        order = Order(count=4, pairs=[(0, 1), (0, 2), (1, 3), (2, 3)])
        self.assertEqual(raised(order=order, a=1, b=2), [(0, 2, 0), (1, 3, 1)])
        self.assertEqual(shape(side_by_side(one=row_of(2), other=row_of(2))), shape(order))
        self.assertEqual(Desk().tell(line="all"), "none")

    def test_every_function_has_its_words(self):
        for module, names in INTERFACE.items():
            there = importlib.import_module("evenclimb." + module)
            for name in names:
                self.assertTrue(getattr(there, name).__doc__)


class NothingIsChangedTest(unittest.TestCase):
    def check(self, ask, given):
        """Ask twice, spoil what is told first, and ask again: given stays, and the same is told."""
        kept = plain_form(given)
        first = answer(ask, *given)
        told = plain_form(first)
        second = answer(ask, *given)
        self.assertEqual(plain_form(second), told)
        given_lists = [id(inner) for inner in lists_in(list(given))]
        for inner in lists_in(first):
            self.assertNotIn(id(inner), given_lists)
            inner.append(99)
            inner.reverse()
        self.assertEqual(plain_form(second), told)
        self.assertEqual(plain_form(answer(ask, *given)), told)
        self.assertEqual(plain_form(given), kept)

    def test_orders_and_things(self):
        for order in (square(), side_way(), mixed_cube(), hexagon(), row_of(1), row_of(24)):
            numbers = [-1, 0, order.count // 2, order.count - 1, order.count, FORTY_FIGURES]
            for a, b in product(numbers, repeat=2):
                for ask, given in order_asks(order, a, b):
                    self.check(ask, given)

    def test_lists(self):
        lists = [[], [0], [0, 1], [0, 1, 3], [0, 2, 3], [0, 3], [1, 2], [0, 1, 3, 4], [0, 2, 4], [0, 4], [9], [0, -1]]
        for order in (square(), side_way(), row_of(5), hexagon()):
            for one, other in product(lists, repeat=2):
                for ask, given in list_asks(order, list(one), list(other)):
                    self.check(ask, given)

    def test_numbers_and_texts(self):
        for number in (-1, 0, 1, 2, 3, 4, 12, 360, 720, FORTY_FIGURES):
            for ask in (dividers, dividing, fields_of, sums_order):
                self.check(ask, (number,))
        for text in ("", "1", "2 0<1", "2 0<1 ", "4 0<1 0<2 1<3 2<3", "0", "2", "2 0<1 1<0", "2 0<2"):
            self.check(read_order, (text,))

    def test_pairs_that_are_handed_in(self):
        for count, pairs in ((4, [(0, 1), (0, 2), (1, 3), (2, 3)]), (2, []), (2, [(0, 1), (1, 0)]), (2, [(0, 5)]), (0, [])):
            self.check(Order, (count, pairs))

    def test_lists_changed_behind_the_call(self):
        pairs = [(0, 1), (0, 2), (1, 3), (2, 3)]
        order = Order(4, pairs)
        beside, over, part = side_by_side(order, order), turned(order), cut(order, 0, 3)
        kept = [shape(made) for made in (order, beside, over, part)]
        pairs.clear()
        self.assertEqual([shape(made) for made in (order, beside, over, part)], kept)
        one, other = [0, 1, 3], [0, 2, 3]
        told = [led(order, one, other), paired(order, one, other), longer(order, one, other), exchanged(order, one, (1, 2))]
        kept = plain_form(told)
        one.append(7)
        other.clear()
        self.assertEqual(told, kept)

    def test_a_told_climb_is_not_the_one_handed_in(self):
        order, climb = square(), [0, 1, 3]
        for told in (longer(order, climb, climb)[0], longer(order, climb, climb)[1], exchanged(order, climb, (1, 2))):
            self.assertIsNot(told, climb)
        one, other, rows = longer(order, climb, climb)
        one.clear()
        self.assertEqual(other, [0, 1, 3])

    def test_what_was_told_may_be_handed_in_again(self):
        for order in even_orders():
            low, high = order.lowest(), order.highest()
            last = how_many(order, low, high) - 1
            climb = climb_at(order, low, high, last)
            self.assertEqual(number_of(order, climb), last)
            for exchange in exchanges(order, climb):
                self.assertIn(tuple(exchanged(order, climb, exchange)), {tuple(c) for c in plain_climbs(order, low, high)})
            self.assertEqual(shape(Order(order.count, steps(order))), shape(order))
            self.assertEqual(shape(read_order(order_text(order))), shape(order))


class PromiseTest(unittest.TestCase):
    """Point 4, with orders that the program itself puts together."""

    def made(self):
        """Orders put side by side, turned, cut and made, even and not."""
        orders = [sums_order(2), sums_order(3), dividing(36), dividing(360), dividing(210), side_way(), hexagon()]
        orders += [side_by_side(side_way(), row_of(3)), side_by_side(sums_order(2), square()), turned(side_way())]
        orders += [cut(order, a, order.highest()) for order in orders for a in range(0, order.count, 3)]
        return orders + [turned(order) for order in orders] + small_orders(6)

    def test_every_order_is_told_even_with_heights_or_not_with_five(self):
        for order in self.made() + even_orders() + uneven_orders():
            even, told = evenness(order)
            self.assertIs(even, plain_even(order))
            if not even:
                self.assertTrue(bars(order, told))
                self.assertTrue(is_five(order, told))
                continue
            self.assertEqual(told[order.lowest()], 0)
            self.assertTrue(all(told[b] == told[a] + 1 for a, b in steps(order)))
            for a, b in things_twice(order):
                self.assertEqual(told[order.join(a, b)] + told[order.meet(a, b)], told[a] + told[b])

    def check_two_climbs(self, order, one, other):
        self.assertEqual(len(one), len(other))
        climb = one
        for exchange in led(order, one, other):
            self.assertIn(exchange, exchanges(order, climb))
            climb = exchanged(order, climb, exchange)
        self.assertEqual(climb, other)
        rows = paired(order, one, other)
        self.assertEqual(sorted(number for number, road in rows), list(range(len(other) - 1)))
        for step, (number, road) in zip(parts(one), rows):
            self.assertEqual((road[0], road[-1]), (step, parts(other)[number]))
            for low, high in parts(road):
                self.assertIn(carried(order, low, high), ("up", "down", "both"))

    def test_any_two_climbs_of_even_orders(self):
        for order in self.made():
            if evenness(order)[0]:
                climbs = plain_climbs(order, order.lowest(), order.highest())
                for one, other in zip(climbs, reversed(climbs)):
                    self.check_two_climbs(order, one, other)

    def test_chains_of_even_orders(self):
        for order in self.made():
            if not evenness(order)[0]:
                continue
            climbs = plain_climbs(order, order.lowest(), order.highest())
            for one, other in zip(climbs, reversed(climbs)):
                chains = (one[:1] + one[2:-1:2] + one[-1:], other) if len(one) > 1 else (one, other)
                first, second, rows = longer(order, *chains)
                self.assertTrue(is_chain(order, first) and is_chain(order, second))
                self.assertTrue(set(chains[0]) <= set(first) and set(chains[1]) <= set(second))
                self.assertEqual(len(first), len(second))
                self.assertEqual(sorted(row[0] for row in rows), list(range(len(second) - 1)))
                for part, (number, low, high) in zip(parts(first), rows):
                    self.assertIn((low, high), order.pairs)
                    self.assertTrue(carried_up(order, (low, high), part))
                    self.assertTrue(carried_up(order, (low, high), parts(second)[number]))

    def test_climbs_are_counted_as_they_are_told(self):
        for order in self.made():
            for a, b in things_twice(order):
                climbs = plain_climbs(order, a, b)
                self.assertEqual(how_many(order, a, b), len(climbs))
                self.assertEqual([climb_at(order, a, b, number) for number in range(len(climbs))], climbs)

    def test_both_sides_of_a_join_are_alike_in_even_orders(self):
        for order in self.made():
            if not evenness(order)[0]:
                continue
            for a, b in things_twice(order):
                rows = raised(order, a, b)
                low, high = cut(order, order.meet(a, b), a), cut(order, b, order.join(a, b))
                upper = between(order, b, order.join(a, b))
                self.assertEqual(low.count, high.count)
                places = [upper.index(y) for x, y, z in rows]
                self.assertEqual(tuple(sorted((places[c], places[d]) for c, d in low.pairs)), high.pairs)


if __name__ == "__main__":
    unittest.main()
