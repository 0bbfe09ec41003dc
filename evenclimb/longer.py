"""Two chains between the same things of an even order, made longer until their parts match."""

from evenclimb.climbs import is_chain, need_like_ends
from evenclimb.errors import NoChain
from evenclimb.even import need_even


def parts_of(chain):
    """The parts of a chain, each of a thing and the next one, in order."""
    return list(zip(chain, chain[1:]))


def shared_part(order, one, other):
    """What two parts share, as (low, high): one thing twice where they share nothing.

    In an even order it is carried up to a piece of the one part and to a piece of the other, each piece from
    the join of the part's lower thing and low to the join of the part's lower thing and high.
    """
    high = order.meets[one[1]][other[1]]
    low = order.joins[order.meets[one[0]][other[1]]][order.meets[one[1]][other[0]]]
    return (low, high)


def matches(order, one, other):
    """Tuples (place, against, low, high), rising: the one's part at place and the other's at against share these."""
    told = []
    for place, part in enumerate(parts_of(one)):
        for against, facing in enumerate(parts_of(other)):
            both = shared_part(order, part, facing)
            if both[0] != both[1]:
                told.append((place, against, both[0], both[1]))
    return told


def need_two_chains(order, one, other):
    """Refuse what is no chain, then chains with unlike first or last things."""
    if not is_chain(order, one) or not is_chain(order, other):
        raise NoChain("one of the lists is no chain of the order")
    need_like_ends(one, other)


def longer(order, one, other):
    """A tuple of the two chains, made longer to as many parts, and of rows (number, low, high).

    The row of a part of the one tells the number of its part of the other, and the part (low, high) that is
    carried up to both.
    """
    need_two_chains(order, one, other)
    need_even(order)
    found = matches(order, one, other)
    # Each match is a part of either longer chain: found has them as they stand in the one, turned as in the other.
    turned = sorted(found, key=lambda row: (row[1], row[0]))
    longer_one = [one[0]] + [order.joins[one[row[0]]][row[3]] for row in found]
    longer_other = [other[0]] + [order.joins[other[row[1]]][row[3]] for row in turned]
    return (longer_one, longer_other, [(turned.index(row), row[2], row[3]) for row in found])
