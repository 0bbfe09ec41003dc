"""Orders for the tests, and plain reckonings that share nothing with the program."""

from itertools import combinations, permutations, product

from evenclimb.errors import ClimbError
from evenclimb.orders import Order

FORTY_FIGURES = 10 ** 40 - 1


def one_thing():
    return Order(1, [])


def row_of(count):
    """0 below 1 below 2 .."""
    return Order(count, [(thing, thing + 1) for thing in range(count - 1)])


def square():
    """0 below 1 and 2, both below 3."""
    return Order(4, [(0, 1), (0, 2), (1, 3), (2, 3)])


def side_way():
    """From 0 to 4 by 1 and 3, or by 2 alone."""
    return Order(5, [(0, 1), (1, 3), (3, 4), (0, 2), (2, 4)])


def mixed_cube():
    """The subsets of three, numbered so that the numbers do not rise with the order."""
    places = [5, 2, 7, 0, 4, 1, 6, 3]
    pairs = [(places[low], places[high]) for low in range(8) for high in range(8) if low & high == low]
    return Order(8, pairs)


def four_fold():
    """The subsets of four, and behind them a row of eight more: all of twenty-four things."""
    pairs = [(low, high) for low in range(16) for high in range(16) if low & high == low and (low ^ high).bit_count() == 1]
    return Order(24, pairs + [(thing, thing + 1) for thing in range(15, 23)])


def flat(count):
    """0 below all, the last above all, nothing else."""
    pairs = [(0, thing) for thing in range(1, count)]
    return Order(count, pairs + [(thing, count - 1) for thing in range(count - 1)])


def samples():
    return [one_thing(), row_of(2), row_of(5), square(), side_way(), mixed_cube(), four_fold(), flat(7),
            Order(24, [(thing + 1, thing) for thing in range(23)])]


def small_lists(count):
    """All lists of pairs of unlike things, each at most once."""
    pairs = list(permutations(range(count), 2))
    for size in range(len(pairs) + 1):
        for chosen in combinations(pairs, size):
            yield list(chosen)


def follows(count, pairs):
    """The set of all (a, b) with b to be had from a by one pair or more, or like a."""
    known = {(thing, thing) for thing in range(count)} | set(pairs)
    while True:
        more = {(a, d) for a, b in known for c, d in known if b == c} - known
        if not more:
            return known
        known |= more


def plain_join(count, known, a, b):
    above = [x for x in range(count) if (a, x) in known and (b, x) in known]
    least = [x for x in above if all((x, y) in known for y in above)]
    return least[0] if len(least) == 1 else None


def plain_meet(count, known, a, b):
    return plain_join(count, {(high, low) for low, high in known}, a, b)


def plain_answer(count, pairs):
    """What making the order comes to: a refusal's name and its things, or Order and the pairs."""
    known = follows(count, pairs)
    for u, v in combinations(range(count), 2):
        if (u, v) in known and (v, u) in known:
            return ("NoOrder", (u, v))
    for u, v in combinations(range(count), 2):
        if plain_join(count, known, u, v) is None or plain_meet(count, known, u, v) is None:
            return ("NoJoin", (u, v))
    return ("Order", tuple(sorted((a, b) for a, b in known if a != b)))


def told_answer(count, pairs):
    try:
        return ("Order", Order(count, pairs).pairs)
    except ClimbError as error:
        return (type(error).__name__, error.things)


def plain_steps(order):
    below = set(order.pairs)
    return sorted((a, b) for a, b in below
                  if not any((a, x) in below and (x, b) in below for x in range(order.count)))


def plain_climbs(order, a, b):
    """All climbs from a to b, sorted, found by walking every way."""
    step_list = plain_steps(order)
    ready = []
    open_ways = [[a]]
    while open_ways:
        way = open_ways.pop()
        if way[-1] == b:
            ready.append(way)
        else:
            open_ways.extend(way + [high] for low, high in step_list if low == way[-1])
    return sorted(ready)


def things_twice(order):
    return product(range(order.count), repeat=2)
