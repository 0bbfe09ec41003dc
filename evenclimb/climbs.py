"""Steps, chains and climbs, and how climbs are counted and numbered."""

from evenclimb.errors import NoClimb, NoEnds, NoNumber
from evenclimb.orders import is_thing, is_whole, need_thing


def is_below(order, a, b):
    """Tell of two things whether the first is below the second."""
    return a != b and order.reach[a][b]


def is_step(order, a, b):
    """Tell of two things whether the first is below the second with nothing between."""
    if not is_below(order, a, b):
        return False
    return not any([is_below(order, a, thing) and is_below(order, thing, b) for thing in range(order.count)])


def steps(order):
    """The list of all steps, rising."""
    return [pair for pair in order.pairs if is_step(order, pair[0], pair[1])]


def is_chain(order, things):
    """Tell whether the list is one or more things, each below the next one."""
    if len(things) == 0:
        return False
    if not all([is_thing(order.count, thing) for thing in things]):
        return False
    return all([is_below(order, a, b) for a, b in zip(things, things[1:])])


def is_climb(order, things):
    """Tell whether the list is a chain in which each thing and the next one are a step."""
    if not is_chain(order, things):
        return False
    return all([is_step(order, a, b) for a, b in zip(things, things[1:])])


def need_climb(order, things):
    """Refuse a list that is no climb."""
    if not is_climb(order, things):
        raise NoClimb("this list is no climb of the order")


def need_like_ends(one, other):
    """Refuse two lists whose first or last things are unlike."""
    if one[0] != other[0] or one[-1] != other[-1]:
        raise NoEnds("the first or the last things of the two lists are unlike")


def need_two_climbs(order, one, other):
    """Refuse what is no climb, then climbs with unlike first or last things."""
    need_climb(order, one)
    need_climb(order, other)
    need_like_ends(one, other)


def steps_above(order):
    """For each thing the list of the things that are a step above it, rising."""
    above = [[] for thing in range(order.count)]
    for step in steps(order):
        above[step[0]].append(step[1])
    return above


def highest_first(order):
    """All things, each behind those that are above it."""
    # What is below a thing has all that is above the thing above it, too, and the thing: so it has more.
    return sorted(range(order.count), key=lambda thing: order.reach[thing].count(True))


def climbs_to(order, above, end):
    """For each thing the number of climbs from it to the end."""
    ways = [0 for thing in range(order.count)]
    ways[end] = 1
    for thing in highest_first(order):
        if thing != end:
            ways[thing] = sum([ways[higher] for higher in above[thing]])
    return ways


def how_many(order, a, b):
    """The number of all climbs from a to b."""
    need_thing(order.count, a)
    need_thing(order.count, b)
    return climbs_to(order, steps_above(order), b)[a]


def choose(choices, ways, number):
    """The choice on which the climb of this number goes on, and its number among those that go on there."""
    place = 0
    while number >= ways[choices[place]]:
        number = number - ways[choices[place]]
        place = place + 1
    return (choices[place], number)


def climb_at(order, a, b, number):
    """The climb from a to b that has this number, from 0, in the order of their lists."""
    need_thing(order.count, a)
    need_thing(order.count, b)
    above = steps_above(order)
    ways = climbs_to(order, above, b)
    if not is_whole(number) or not 0 <= number < ways[a]:
        raise NoNumber("no climb between these things has this number")
    climb = [a]
    while climb[-1] != b:
        chosen = choose(above[climb[-1]], ways, number)
        climb.append(chosen[0])
        number = chosen[1]
    return climb


def number_of(order, climb):
    """The number of the climb among those from its first to its last thing."""
    need_climb(order, climb)
    above = steps_above(order)
    ways = climbs_to(order, above, climb[-1])
    number = 0
    for thing, taken in zip(climb, climb[1:]):
        number = number + sum([ways[other] for other in above[thing] if other < taken])
    return number
