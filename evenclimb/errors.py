"""All refusals of the program, each straight under ClimbError."""


class ClimbError(ValueError):
    """Any refusal."""


class NoCount(ClimbError):
    """A count of things that no order has."""


class NoThing(ClimbError):
    """A number that is no thing of the order; its field: thing."""

    def __init__(self, thing):
        ClimbError.__init__(self, f"no thing of the order: {thing!r}")
        self.thing = thing


class NoOrder(ClimbError):
    """Two unlike things would be below each other; its field: things."""

    def __init__(self, things):
        ClimbError.__init__(self, f"two things would be below each other: {things!r}")
        self.things = things


class NoJoin(ClimbError):
    """Two unlike things have no join or no meet; its field: things."""

    def __init__(self, things):
        ClimbError.__init__(self, f"two things without a join or without a meet: {things!r}")
        self.things = things


class NoNumber(ClimbError):
    """A number that no climb has, or of which no order is made."""


class NoClimb(ClimbError):
    """A list of things that is no climb."""


class NoExchange(ClimbError):
    """A tuple that is no exchange of the climb."""


class NoEnds(ClimbError):
    """Two lists whose first or last things are unlike."""


class NoPart(ClimbError):
    """Two things that are no part, or between which nothing lies."""


class NotEven(ClimbError):
    """The order is not even; its field: five, things that bar it."""

    def __init__(self, five):
        ClimbError.__init__(self, f"the order is not even, it is barred by {five!r}")
        self.five = five


class NoChain(ClimbError):
    """A list of things that is no chain."""


class NoText(ClimbError):
    """A text that cannot be read; its field: at, the number of the word."""

    def __init__(self, at):
        ClimbError.__init__(self, f"not to be read at word {at!r}")
        self.at = at


class NoLine(ClimbError):
    """A line that the desk does not know."""


class NoWord(ClimbError):
    """A word that is no name."""


class NoName(ClimbError):
    """A name by which no order stands; its field: name."""

    def __init__(self, name):
        ClimbError.__init__(self, f"no order stands by the name {name!r}")
        self.name = name
