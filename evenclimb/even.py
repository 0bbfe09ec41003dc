"""Even orders: their heights, and the five things that bar an order from being even."""

from evenclimb.climbs import highest_first, is_below, steps_above
from evenclimb.errors import NotEven
from evenclimb.orders import is_thing


def join_of_meet(order, a, b, c):
    """The join of a and the meet of b and c."""
    return order.joins[a][order.meets[b][c]]


def meet_of_join(order, a, b, c):
    """The meet of the join of a and b and of c."""
    return order.meets[order.joins[a][b]][c]


def uneven(order):
    """None where the order is even, else the first tuple (a, b, c), a at most c, for which it isn't so."""
    for a in range(order.count):
        for b in range(order.count):
            for c in range(order.count):
                if order.reach[a][c] and join_of_meet(order, a, b, c) != meet_of_join(order, a, b, c):
                    return (a, b, c)
    return None


def ends_alike(table, low, side, high, end):
    """Tell whether low with side and high with side both come to the end, by a table of joins or meets."""
    return table[low][side] == end and table[high][side] == end


def is_five(order, five):
    """Tell of a tuple of whole numbers whether it is five things (bottom, low, side, high, top) that bar the order."""
    if len(five) != 5 or not all([is_thing(order.count, thing) for thing in five]):
        return False
    low = five[1]
    side = five[2]
    high = five[3]
    if not is_below(order, low, high) or order.reach[side][high] or order.reach[low][side]:
        return False
    return ends_alike(order.meets, low, side, high, five[0]) and ends_alike(order.joins, low, side, high, five[4])


def five_of(order, triple):
    """The five things that bar the order, by a triple for which it isn't even."""
    a = triple[0]
    b = triple[1]
    c = triple[2]
    # The join of a and the meet of b and c is always at most the meet of the join of a and b and of c: where
    # they differ it is below, and both have the same join and the same meet with b.
    low = join_of_meet(order, a, b, c)
    high = meet_of_join(order, a, b, c)
    return (order.meets[b][c], low, b, high, order.joins[a][b])


def heights_of(order):
    """For each thing of an even order how many steps it is above the lowest one."""
    above = steps_above(order)
    heights = [0 for thing in range(order.count)]
    # In an even order all climbs to a thing are as long: so each step to it gives it the same height.
    for thing in reversed(highest_first(order)):
        for higher in above[thing]:
            heights[higher] = heights[thing] + 1
    return heights


def evenness(order):
    """(True, heights) where the order is even, else (False, five things that bar it)."""
    triple = uneven(order)
    if triple is None:
        return (True, heights_of(order))
    return (False, five_of(order, triple))


def need_even(order):
    """Refuse an order that isn't even."""
    triple = uneven(order)
    if triple is not None:
        raise NotEven(five_of(order, triple))
