"""Orders: things of which some are below others, every two with a join and a meet."""

from evenclimb.errors import NoCount, NoJoin, NoOrder, NoThing

MOST_THINGS = 24


def is_whole(value):
    """Tell whether the value is a whole number; True and False are none."""
    return isinstance(value, int) and not isinstance(value, bool)


def is_thing(count, number):
    """Tell whether an order of so many things has the number as a thing."""
    return is_whole(number) and 0 <= number < count


def need_thing(count, number):
    """Refuse a number that is no thing of an order of so many things."""
    if not is_thing(count, number):
        raise NoThing(number)


def need_count(count):
    """Refuse a count that no order has."""
    if not is_whole(count) or not 1 <= count <= MOST_THINGS:
        raise NoCount("an order has 1 to 24 things")


def need_pairs(count, pairs):
    """Refuse the first number in the pairs that is no thing."""
    for pair in pairs:
        need_thing(count, pair[0])
        need_thing(count, pair[1])


def own_row(count, thing):
    """A row of truths, one for each thing, that is True for this one alone."""
    return [thing == other for other in range(count)]


def either(one, other):
    """The row of truths that is True where one of the two rows is."""
    return [a or b for a, b in zip(one, other)]


def shared(one, other):
    """The row of truths that is True where both rows are, as a tuple."""
    return tuple([a and b for a, b in zip(one, other)])


def column(rows, place):
    """What stands at this place of each row, as a tuple."""
    return tuple([row[place] for row in rows])


def reach_of(count, pairs):
    """For each thing the row of truths: which things it is or, by what follows from the pairs, is below."""
    rows = [own_row(count, thing) for thing in range(count)]
    for pair in pairs:
        rows[pair[0]][pair[1]] = True
    # With the middle in the outermost loop one pass is enough for whatever long ways.
    for middle in range(count):
        for thing in range(count):
            if rows[thing][middle]:
                rows[thing] = either(rows[thing], rows[middle])
    return tuple([tuple(row) for row in rows])


def twos(count):
    """All tuples of two things, the first less than the second, rising."""
    told = []
    for low in range(count):
        told.extend([(low, high) for high in range(low + 1, count)])
    return told


def need_one_way(count, reach):
    """Refuse the least two unlike things that would be below each other."""
    for two in twos(count):
        if reach[two[0]][two[1]] and reach[two[1]][two[0]]:
            raise NoOrder(two)


def ends_with(rows, things, thing):
    """For each other thing the one whose row is what the rows of both share, or None."""
    return tuple([things.get(shared(rows[thing], row)) for row in rows])


def ends_of(rows):
    """For every two things the one whose row is what their rows share, or None.

    What both of two things are at most is just what their join is at most: so this is the join where the
    rows tell what each thing is at most, and the meet where they tell what is at most each thing.
    """
    things = {}
    for thing, row in enumerate(rows):
        things[row] = thing
    return tuple([ends_with(rows, things, thing) for thing in range(len(rows))])


def need_ends(count, joins, meets):
    """Refuse the least two unlike things that have no join or no meet."""
    for two in twos(count):
        if joins[two[0]][two[1]] is None or meets[two[0]][two[1]] is None:
            raise NoJoin(two)


def pairs_of(count, reach):
    """The tuple of all tuples (a, b) with a below b, rising."""
    told = []
    for low in range(count):
        told.extend([(low, high) for high in range(count) if low != high and reach[low][high]])
    return tuple(told)


class Order:
    """An order with joins and meets, made of a count of things and a list of pairs (a, b), a at most b.

    Fields: count; pairs, all tuples (a, b) with a below b, rising; and as tables for the whole package
    reach (reach[a][b]: a is b or below b), joins and meets.
    """

    def __init__(self, count, pairs):
        need_count(count)
        need_pairs(count, pairs)
        reach = reach_of(count, pairs)
        need_one_way(count, reach)
        joins = ends_of(reach)
        meets = ends_of([column(reach, thing) for thing in range(count)])
        need_ends(count, joins, meets)
        self.count = count
        self.pairs = pairs_of(count, reach)
        self.reach = reach
        self.joins = joins
        self.meets = meets

    def at_most(self, a, b):
        """Tell whether a is b or below b."""
        need_thing(self.count, a)
        need_thing(self.count, b)
        return self.reach[a][b]

    def join(self, a, b):
        """The least thing that a and b are at most."""
        need_thing(self.count, a)
        need_thing(self.count, b)
        return self.joins[a][b]

    def meet(self, a, b):
        """The greatest thing that is at most a and b."""
        need_thing(self.count, a)
        need_thing(self.count, b)
        return self.meets[a][b]

    def lowest(self):
        """The thing that is below all others."""
        found = 0
        for thing in range(self.count):
            found = self.meets[found][thing]
        return found

    def highest(self):
        """The thing that is above all others."""
        found = 0
        for thing in range(self.count):
            found = self.joins[found][thing]
        return found


def order_by(things, is_at_most):
    """The order of these things, numbered as they stand, one at most another where is_at_most tells so of them."""
    pairs = []
    for low, one in enumerate(things):
        pairs.extend([(low, high) for high, other in enumerate(things) if is_at_most(one, other)])
    return Order(len(things), pairs)
