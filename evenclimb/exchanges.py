"""Exchanges of one thing of a climb at a time, and how they lead from climb to climb."""

from evenclimb.climbs import need_climb, need_two_climbs, steps_above
from evenclimb.errors import NoExchange
from evenclimb.orders import is_whole


def exchanges_at(above, climb, place):
    """The exchanges at this place, neither the first nor the last, rising; above is as steps_above tells it."""
    stands = climb[place]
    target = climb[place + 1]
    return [(place, thing) for thing in above[climb[place - 1]] if thing != stands and target in above[thing]]


def exchanges_by(above, climb):
    """All exchanges of a climb, rising; above is as steps_above tells it."""
    told = []
    for place in range(1, len(climb) - 1):
        told.extend(exchanges_at(above, climb, place))
    return told


def after_exchange(climb, exchange):
    """The climb that comes of the exchange."""
    place = exchange[0]
    return climb[:place] + [exchange[1]] + climb[place + 1:]


def exchanges(order, climb):
    """The list of all exchanges of the climb, rising."""
    need_climb(order, climb)
    return exchanges_by(steps_above(order), climb)


def exchanged(order, climb, exchange):
    """The climb that comes of the exchange."""
    known = exchanges(order, climb)
    # True is like 1 and False like 0, but they are no whole numbers.
    if exchange not in known or not all([is_whole(number) for number in exchange]):
        raise NoExchange("this tuple is no exchange of the climb")
    return after_exchange(climb, exchange)


def spread(above, ways, newest):
    """The climbs to which one exchange of these leads and that have no way yet; each is given its way."""
    reached = []
    for climb in newest:
        for exchange in exchanges_by(above, climb):
            found = after_exchange(climb, exchange)
            if tuple(found) not in ways:
                ways[tuple(found)] = ways[tuple(climb)] + [exchange]
                reached.append(found)
    return reached


def led(order, one, other):
    """A list of exchanges that lead the one climb into the other, one behind the other; None where none do."""
    need_two_climbs(order, one, other)
    above = steps_above(order)
    ways = {tuple(one): []}
    reached = [one]
    while len(reached) > 0 and tuple(other) not in ways:
        reached = spread(above, ways, reached)
    return ways.get(tuple(other))
