"""The interface of evenclimb.errors."""

import unittest

from evenclimb import errors
from evenclimb.climbs import climb_at, number_of
from evenclimb.desk import Desk
from evenclimb.exchanges import exchanged, led
from evenclimb.longer import longer
from evenclimb.made import dividers, sums_order
from evenclimb.orders import Order
from evenclimb.pairs import carried, paired
from evenclimb.parts import between, side_by_side
from evenclimb.texts import read_order
from helper import flat, side_way, square

NAMES = ("NoCount NoThing NoOrder NoJoin NoNumber NoClimb NoExchange NoEnds NoPart NotEven NoChain "
         "NoText NoLine NoWord NoName").split()
FIELDS = [("NoThing", "thing", 7), ("NoOrder", "things", (1, 2)), ("NoJoin", "things", (0, 3)),
          ("NotEven", "five", (0, 1, 2, 3, 4)), ("NoText", "at", 2), ("NoName", "name", "abc")]


class ErrorsTest(unittest.TestCase):
    def test_climb_error_is_a_value_error(self):
        self.assertEqual(errors.ClimbError.__bases__, (ValueError,))

    def test_each_class_stands_straight_under_climb_error(self):
        for name in NAMES:
            with self.subTest(name=name):
                self.assertEqual(getattr(errors, name).__bases__, (errors.ClimbError,))

    def test_none_stands_under_another(self):
        classes = [getattr(errors, name) for name in NAMES]
        self.assertEqual(len(set(classes)), len(NAMES))
        for one in classes:
            for other in classes:
                if one is not other:
                    self.assertFalse(issubclass(one, other))

    def test_fields_are_set_when_made(self):
        for name, field, value in FIELDS:
            with self.subTest(name=name):
                error = getattr(errors, name)(value)
                self.assertEqual(getattr(error, field), value)
                self.assertTrue(str(error))

    def test_every_refusal_is_caught_as_climb_error_and_value_error(self):
        asked = [lambda: Order(0, []), lambda: Order(1, [(0, 1)]), lambda: Order(2, [(0, 1), (1, 0)]),
                 lambda: Order(2, []), lambda: square().join(4, 0), lambda: climb_at(square(), 0, 3, 2),
                 lambda: number_of(square(), []), lambda: exchanged(square(), [0, 1, 3], (1, 1)),
                 lambda: led(square(), [0, 1], [0, 2]), lambda: carried(square(), (1, 2), (0, 1)),
                 lambda: paired(side_way(), [0], [0]), lambda: longer(square(), [1, 2], [1, 2]),
                 lambda: between(square(), 1, 2), lambda: side_by_side(flat(5), flat(5)), lambda: dividers(0),
                 lambda: sums_order(4), lambda: read_order(""), lambda: Desk().tell(""),
                 lambda: Desk().tell("order A 1"), lambda: Desk().tell("show a")]
        for ask in asked:
            for base in (errors.ClimbError, ValueError):
                with self.assertRaises(base):
                    ask()


if __name__ == "__main__":
    unittest.main()
