"""A desk that keeps orders by names and answers lines."""

from evenclimb.climbs import climb_at, how_many, number_of
from evenclimb.errors import NoLine, NoName, NoText, NoWord
from evenclimb.even import evenness
from evenclimb.parts import cut, side_by_side, turned
from evenclimb.texts import is_number, order_text, read_order

SMALL_LETTERS = "abcdefghijklmnopqrstuvwxyz"
LONGEST_NAME = 8
# What stands at each place of a line, by its first word: a new name, the name of an order that stands, a number,
# or the text of an order.
FORMS = {
    "order": ("first", "new", "text"),
    "side": ("first", "new", "name", "name"),
    "turn": ("first", "new", "name"),
    "cut": ("first", "new", "name", "number", "number"),
    "drop": ("first", "name"),
    "show": ("first", "name"),
    "even": ("first", "name"),
    "count": ("first", "name", "number", "number"),
    "climb": ("first", "name", "number", "number", "number"),
    "number": ("first", "name", "number"),
    "join": ("first", "name", "number", "number"),
    "meet": ("first", "name", "number", "number"),
    "all": ("first",),
}


def is_name(word):
    """Tell whether the word is one to eight small letters."""
    return 1 <= len(word) <= LONGEST_NAME and all([sign in SMALL_LETTERS for sign in word])


def words_of(line):
    """The words of a line; the text of an order, which has blanks of its own, is one of them."""
    words = line.split(" ")
    return line.split(" ", 2) if words[0] == "order" else words


def form_of(words):
    """What is to stand at each place of a line with these words."""
    if words[0] not in FORMS:
        raise NoLine("no line begins with this word")
    form = FORMS[words[0]]
    if words[0] == "number":
        # A climb has as many things as are told.
        form = form + ("number",) * (len(words) - len(form))
    return form


def need_line(words, form):
    """Refuse a line of another number of words, or with a word without signs."""
    if len(words) != len(form):
        raise NoLine("this line has too few or too many words")
    if any([word == "" and kind != "text" for word, kind in zip(words, form)]):
        raise NoLine("this line has two blanks, or one at an end")


def of_kind(words, form, kind):
    """The places and the words at which the form has this kind, as tuples, in order."""
    return [(place, word) for place, word in enumerate(words) if form[place] == kind]


def need_words(standing, words, form):
    """Refuse a new name that is none, then a name by which no order stands, then what is no number."""
    for place, word in of_kind(words, form, "new"):
        if not is_name(word):
            raise NoWord(f"the word at place {place} is no name")
    for place, word in of_kind(words, form, "name"):
        if word not in standing:
            raise NoName(word)
    for place, word in of_kind(words, form, "number"):
        if not is_number(word):
            raise NoText(place)


def value_of(standing, word, kind):
    """What the word of this kind tells: an order, a number, or the word itself."""
    if kind == "name":
        return standing[word]
    if kind == "number":
        return int(word)
    if kind == "text":
        return read_order(word)
    return word


def new_order(first, values):
    """The order that a line with a new name tells; the values are those behind the name."""
    if first == "side":
        return side_by_side(values[0], values[1])
    if first == "turn":
        return turned(values[0])
    if first == "cut":
        return cut(values[0], values[1], values[2])
    return values[0]


def row_text(things):
    """The things, a blank between two."""
    return " ".join([str(thing) for thing in things])


def even_text(order):
    """The word even and the heights, or the word five and five things that bar the order."""
    told = evenness(order)
    return ("even " if told[0] else "five ") + row_text(told[1])


def answer_of(first, order, values):
    """The answer to a line that asks of an order; the values are those behind its name."""
    if first == "show":
        return order_text(order)
    if first == "even":
        return even_text(order)
    if first == "count":
        return str(how_many(order, values[0], values[1]))
    if first == "climb":
        return row_text(climb_at(order, values[0], values[1], values[2]))
    if first == "number":
        return str(number_of(order, values))
    if first == "join":
        return str(order.join(values[0], values[1]))
    return str(order.meet(values[0], values[1]))


class Desk:
    """A desk; it keeps orders by names in standing."""

    def __init__(self):
        self.standing = {}

    def tell(self, line):
        """The answer to a line."""
        words = words_of(line)
        form = form_of(words)
        need_line(words, form)
        need_words(self.standing, words, form)
        if words[0] == "all":
            return " ".join(sorted(self.standing)) if len(self.standing) > 0 else "none"
        if words[0] == "drop":
            self.standing.pop(words[1])
            return words[1]
        values = [value_of(self.standing, word, kind) for word, kind in zip(words, form)]
        if form[1] == "new":
            self.standing[words[1]] = new_order(words[0], values[2:])
            return words[1]
        return answer_of(words[0], values[1], values[2:])
