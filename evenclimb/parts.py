"""Parts of orders, and orders made of other ones: cut out, put side by side, turned over."""

from evenclimb.errors import NoPart
from evenclimb.orders import Order, need_count, order_by


def between(order, a, b):
    """The list, rising, of all things that a is at most and that are at most b."""
    if not order.at_most(a, b):
        raise NoPart("the first thing is not at most the second")
    return [thing for thing in range(order.count) if order.reach[a][thing] and order.reach[thing][b]]


def cut(order, a, b):
    """The order of the things between a and b, numbered as they stand there."""
    return order_by(between(order, a, b), lambda one, other: order.reach[one][other])


def raised(order, a, b):
    """Tuples (x, y, z), one for each x between the meet and a: y the join of x and b, z the meet of y and a."""
    told = []
    for x in between(order, order.meet(a, b), a):
        y = order.joins[x][b]
        told.append((x, y, order.meets[y][a]))
    return told


def two_things(one, other):
    """All tuples of a thing of the one order and a thing of the other, rising."""
    told = []
    for thing in range(one.count):
        told.extend([(thing, beside) for beside in range(other.count)])
    return told


def side_by_side(one, other):
    """The order of all tuples of a thing of the one and a thing of the other, one at most another where both are."""
    # Two orders of twenty-four have so many tuples that they are counted ahead of being made.
    need_count(one.count * other.count)
    return order_by(two_things(one, other),
                    lambda low, high: one.reach[low[0]][high[0]] and other.reach[low[1]][high[1]])


def turned(order):
    """The order in which each thing is below what was below it."""
    return Order(order.count, [(high, low) for low, high in order.pairs])
