"""Parts that are carried up and down to one another, and how the steps of two climbs are paired by them."""

from evenclimb.climbs import is_chain, need_two_climbs
from evenclimb.errors import NoPart
from evenclimb.longer import longer, parts_of


def need_part(order, part):
    """Refuse what is no tuple of a thing and one that it is below."""
    if len(part) != 2 or not is_chain(order, part):
        raise NoPart("this tuple is no part of the order")


def is_carried_up(order, one, other):
    """Tell of two parts whether the one is carried up to the other."""
    return order.joins[one[1]][other[0]] == other[1] and order.meets[one[1]][other[0]] == one[0]


def carried(order, one, other):
    """The text up, down, both or no: how the one part is carried to the other."""
    need_part(order, one)
    need_part(order, other)
    up = is_carried_up(order, one, other)
    down = is_carried_up(order, other, one)
    if up and down:
        return "both"
    if up:
        return "up"
    return "down" if down else "no"


def road(start, middle, end):
    """The road from the start by the middle to the end, no part of it twice in a row."""
    told = [start]
    for part in (middle, end):
        if part != told[-1]:
            told.append(part)
    return told


def paired(order, one, other):
    """For each step of the one climb (number, road): the number of a step of the other, and a road to it."""
    need_two_climbs(order, one, other)
    # Nothing lies between the things of a climb: so none is made longer, and the parts are the steps.
    rows = longer(order, one, other)[2]
    ends = parts_of(other)
    return [(row[0], road(step, (row[1], row[2]), ends[row[0]])) for step, row in zip(parts_of(one), rows)]
