"""Orders made of numbers that divide one another, and of fields of rows of noughts and ones."""

from evenclimb.errors import NoNumber
from evenclimb.orders import MOST_THINGS, is_whole, order_by

MOST_DIVIDED = 1000000
ROOT_OF_MOST_DIVIDED = 1000
# How many rows there are of no sign, of one, of two and of three.
ROW_COUNTS = (1, 2, 4, 8)


def dividers(number):
    """The list, rising, of all numbers that divide the number."""
    if not is_whole(number) or not 1 <= number <= MOST_DIVIDED:
        raise NoNumber("only numbers from 1 to 1000000 are taken")
    # Of two numbers whose product is the number, the lesser one is at most its root.
    lesser = [low for low in range(1, ROOT_OF_MOST_DIVIDED + 1) if low * low <= number and number % low == 0]
    greater = [number // low for low in reversed(lesser) if low * low != number]
    if len(lesser) + len(greater) > MOST_THINGS:
        raise NoNumber("more than 24 numbers divide this one")
    return lesser + greater


def dividing(number):
    """The order of the numbers that divide the number, one at most another where it divides it."""
    return order_by(dividers(number), lambda one, other: other % one == 0)


def field_with(field, row):
    """The least field that has all rows of the field, and this row."""
    return tuple(sorted(set([known ^ row for known in field] + list(field))))


def fields_of(width):
    """The list of all fields of rows of so many signs, the ones with fewer rows first, then the lesser tuples."""
    if not is_whole(width) or not 0 <= width < len(ROW_COUNTS):
        raise NoNumber("only widths from 0 to 3 are taken")
    found = {(0,): True}
    # Each field comes of the row of noughts by taking in its own rows, one by one as they rise.
    for row in range(1, ROW_COUNTS[width]):
        for field in list(found):
            found[field_with(field, row)] = True
    return sorted(found, key=lambda field: (len(field), field))


def sums_order(width):
    """The order of all fields of rows of so many signs, one at most another where all its rows are in it."""
    return order_by(fields_of(width), lambda one, other: all([row in other for row in one]))
