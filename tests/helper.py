"""Orders for the tests, and plain reckonings that share nothing with the program."""

from functools import lru_cache
from itertools import combinations, permutations, product

from evenclimb.errors import ClimbError
from evenclimb.orders import Order

FORTY_FIGURES = 10 ** 40 - 1


def one_thing():
    return Order(1, [])


def row_of(count):
    """0 below 1 below 2 .."""
    return Order(count, [(thing, thing + 1) for thing in range(count - 1)])


def square():
    """0 below 1 and 2, both below 3."""
    return Order(4, [(0, 1), (0, 2), (1, 3), (2, 3)])


def side_way():
    """From 0 to 4 by 1 and 3, or by 2 alone."""
    return Order(5, [(0, 1), (1, 3), (3, 4), (0, 2), (2, 4)])


def mixed_cube():
    """The subsets of three, numbered so that the numbers do not rise with the order."""
    places = [5, 2, 7, 0, 4, 1, 6, 3]
    pairs = [(places[low], places[high]) for low in range(8) for high in range(8) if low & high == low]
    return Order(8, pairs)


def four_fold():
    """The subsets of four, and behind them a row of eight more: all of twenty-four things."""
    pairs = [(low, high) for low in range(16) for high in range(16) if low & high == low and (low ^ high).bit_count() == 1]
    return Order(24, pairs + [(thing, thing + 1) for thing in range(15, 23)])


def flat(count):
    """0 below all, the last above all, nothing else."""
    pairs = [(0, thing) for thing in range(1, count)]
    return Order(count, pairs + [(thing, count - 1) for thing in range(count - 1)])


def hexagon():
    """From 0 to 5 by 1 and 2, or by 3 and 4: all climbs are as long, but it is not even."""
    return Order(6, [(0, 1), (1, 2), (2, 5), (0, 3), (3, 4), (4, 5)])


def fields_order():
    """The sixteen fields of rows of three signs, the ones with fewer rows first."""
    fields = {frozenset([0])}
    while True:
        more = {frozenset(field | {row ^ other for other in field}) for field in fields for row in range(8)} - fields
        if not more:
            break
        fields |= more
    told = sorted((sorted(field) for field in fields), key=lambda field: (len(field), field))
    return Order(16, [(a, b) for a, b in product(range(16), repeat=2) if set(told[a]) <= set(told[b])])


def ways_to_part_four():
    """The fifteen ways to part four things into heaps, a finer one at most a coarser one."""
    told = sorted({tuple(heaps.index(heap) for heap in heaps) for heaps in product(range(4), repeat=4)})
    pairs = [(a, b) for a, b in product(range(15), repeat=2)
             if all(told[b][i] == told[b][j] for i, j in product(range(4), repeat=2) if told[a][i] == told[a][j])]
    return Order(15, pairs)


def beside(one, other):
    """All pairs of a thing of the one and one of the other."""
    things = list(product(range(one.count), range(other.count)))
    return Order(len(things), [(a, b) for a, b in product(range(len(things)), repeat=2)
                               if one.at_most(things[a][0], things[b][0]) and other.at_most(things[a][1], things[b][1])])


def upon(low, high):
    """The high one upon the low one, its lowest thing being the low one's highest."""
    others = [thing for thing in range(high.count) if thing != high.lowest()]
    names = {thing: low.count + place for place, thing in enumerate(others)}
    names[high.lowest()] = low.highest()
    return Order(low.count + len(others), list(low.pairs) + [(names[a], names[b]) for a, b in high.pairs])


def renumbered(order, factor):
    """The same order; the thing of number k has the number k times factor, and three added, by the rest."""
    names = [(thing * factor + 3) % order.count for thing in range(order.count)]
    assert sorted(names) == list(range(order.count))
    return Order(order.count, [(names[a], names[b]) for a, b in order.pairs])


def small_orders(count):
    """All orders of so many things, 2 or more, whose numbers rise with them: so each order there is, but for its numbers."""
    ends = [(0, thing) for thing in range(1, count)] + [(thing, count - 1) for thing in range(1, count - 1)]
    inner = list(combinations(range(1, count - 1), 2))
    found = {}
    for chosen in product((False, True), repeat=len(inner)):
        try:
            order = Order(count, ends + [pair for pair, taken in zip(inner, chosen) if taken])
        except ClimbError:
            continue
        found[order.pairs] = order
    return list(found.values())


def even_orders():
    """Even orders up to twenty-four things, among them some that are numbered otherwise than they rise."""
    return [one_thing(), row_of(2), row_of(5), square(), mixed_cube(), four_fold(), flat(5), flat(24), fields_order(),
            Order(24, [(thing + 1, thing) for thing in range(23)]), beside(row_of(3), mixed_cube()),
            beside(row_of(6), square()), beside(flat(5), row_of(4)), renumbered(beside(flat(6), square()), 5),
            renumbered(fields_order(), 7), renumbered(upon(fields_order(), flat(9)), 11),
            upon(upon(flat(6), flat(6)), upon(flat(6), flat(6)))]


def uneven_orders():
    """Orders that are not even, up to twenty-four things; the second to the sixth have all climbs as long."""
    square_faces = Order(10, [(0, corner) for corner in range(1, 5)] + [(side, 9) for side in range(5, 9)]
                         + [(1, 5), (2, 5), (2, 6), (3, 6), (3, 7), (4, 7), (4, 8), (1, 8)])
    return [side_way(), hexagon(), ways_to_part_four(), square_faces, renumbered(hexagon(), 5),
            renumbered(ways_to_part_four(), 7), renumbered(side_way(), 3), beside(side_way(), row_of(4)),
            renumbered(beside(hexagon(), square()), 7), upon(upon(square(), side_way()), fields_order()),
            upon(side_way(), upon(side_way(), hexagon()))]


def samples():
    return [one_thing(), row_of(2), row_of(5), square(), side_way(), mixed_cube(), four_fold(), flat(7),
            Order(24, [(thing + 1, thing) for thing in range(23)])]


def small_lists(count):
    """All lists of pairs of unlike things, each at most once."""
    pairs = list(permutations(range(count), 2))
    for size in range(len(pairs) + 1):
        for chosen in combinations(pairs, size):
            yield list(chosen)


def follows(count, pairs):
    """The set of all (a, b) with b to be had from a by one pair or more, or like a."""
    known = {(thing, thing) for thing in range(count)} | set(pairs)
    while True:
        more = {(a, d) for a, b in known for c, d in known if b == c} - known
        if not more:
            return known
        known |= more


def plain_join(count, known, a, b):
    above = [x for x in range(count) if (a, x) in known and (b, x) in known]
    least = [x for x in above if all((x, y) in known for y in above)]
    return least[0] if len(least) == 1 else None


def plain_meet(count, known, a, b):
    return plain_join(count, {(high, low) for low, high in known}, a, b)


def plain_answer(count, pairs):
    """What making the order comes to: a refusal's name and its things, or Order and the pairs."""
    known = follows(count, pairs)
    for u, v in combinations(range(count), 2):
        if (u, v) in known and (v, u) in known:
            return ("NoOrder", (u, v))
    for u, v in combinations(range(count), 2):
        if plain_join(count, known, u, v) is None or plain_meet(count, known, u, v) is None:
            return ("NoJoin", (u, v))
    return ("Order", tuple(sorted((a, b) for a, b in known if a != b)))


def told_answer(count, pairs):
    try:
        return ("Order", Order(count, pairs).pairs)
    except ClimbError as error:
        return (type(error).__name__, error.things)


def plain_steps(order):
    below = set(order.pairs)
    return sorted((a, b) for a, b in below
                  if not any((a, x) in below and (x, b) in below for x in range(order.count)))


@lru_cache(maxsize=None)
def step_set(order):
    return frozenset(plain_steps(order))


def plain_climbs(order, a, b):
    """All climbs from a to b, sorted, found by walking every way."""
    step_list = step_set(order)
    ready = []
    open_ways = [[a]]
    while open_ways:
        way = open_ways.pop()
        if way[-1] == b:
            ready.append(way)
        else:
            open_ways.extend(way + [high] for low, high in step_list if low == way[-1])
    return sorted(ready)


def plain_height(order, thing):
    """How many steps the longest climb from the lowest thing has."""
    return max(len(climb) for climb in plain_climbs(order, order.lowest(), thing)) - 1


def plain_exchanges(order, climb):
    """All exchanges of a climb, rising, found by putting each thing at each place."""
    known = step_set(order)
    return [(place, thing) for place in range(1, len(climb) - 1) for thing in range(order.count)
            if thing != climb[place] and (climb[place - 1], thing) in known and (thing, climb[place + 1]) in known]


def plain_groups(order, a, b):
    """For each climb from a to b, as a tuple, the set of those that exchanges lead it into, itself among them."""
    climbs = [tuple(climb) for climb in plain_climbs(order, a, b)]
    groups = {climb: {climb} for climb in climbs}
    for one, other in combinations(climbs, 2):
        alike = len(one) == len(other) and sum(x != y for x, y in zip(one, other)) == 1
        if alike and groups[one] is not groups[other]:
            both = groups[one] | groups[other]
            for climb in both:
                groups[climb] = both
    return groups


def plain_chains(order, a, b):
    """All chains from a to b."""
    between = [thing for thing in range(order.count)
               if thing not in (a, b) and order.at_most(a, thing) and order.at_most(thing, b)]
    if a == b:
        return [[a]]
    if not order.at_most(a, b):
        return []
    return [[a, b]] + [[a] + rest for thing in between for rest in plain_chains(order, thing, b)]


def carried_up(order, one, other):
    return order.join(one[1], other[0]) == other[1] and order.meet(one[1], other[0]) == one[0]


def parts(things):
    return list(zip(things, things[1:]))


def bars(order, five):
    """Whether five things bar the order, condition by condition as point 11 has them."""
    bottom, low, side, high, top = five
    return (order.at_most(low, high) and low != high and not order.at_most(side, high) and not order.at_most(low, side)
            and order.join(low, side) == top and order.join(high, side) == top
            and order.meet(low, side) == bottom and order.meet(high, side) == bottom)


def things_twice(order):
    return product(range(order.count), repeat=2)


def shape(order):
    """What two like orders have in common."""
    return (order.count, order.pairs)


def plain_between(order, a, b):
    """All things between a and b, rising, by the order's pairs alone."""
    known = set(order.pairs) | {(thing, thing) for thing in range(order.count)}
    return [thing for thing in range(order.count) if (a, thing) in known and (thing, b) in known]


def plain_even(order):
    """Whether there are no five things that bar the order, by every choice of low, side and high."""
    return not any(bars(order, (order.meet(low, side), low, side, high, order.join(low, side)))
                   for low, high in order.pairs for side in range(order.count))


def answer(ask, *given):
    """What is answered; of a refusal its class's name, and its field if it has one."""
    try:
        return ask(*given)
    except ClimbError as refusal:
        fields = [vars(refusal)[name] for name in ("thing", "things", "five", "at", "name") if name in vars(refusal)]
        return (type(refusal).__name__, *fields)
