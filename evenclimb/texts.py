"""The texts of orders, told and read."""

from evenclimb.climbs import steps
from evenclimb.errors import NoText
from evenclimb.orders import Order

FIGURES = "0123456789"


def is_number(word):
    """Tell whether the word is a number by figures, no nought ahead but in 0 itself."""
    if word == "" or not all([sign in FIGURES for sign in word]):
        return False
    return word == "0" or word[0] != "0"


def is_pair(word):
    """Tell whether the word is two numbers with the sign < between."""
    numbers = word.split("<")
    return len(numbers) == 2 and all([is_number(number) for number in numbers])


def read_pair(word):
    """The tuple of the two numbers of a word a<b."""
    numbers = word.split("<")
    return (int(numbers[0]), int(numbers[1]))


def order_text(order):
    """The order's count, and behind it its steps a<b, rising, a blank ahead of each."""
    return " ".join([str(order.count)] + [f"{low}<{high}" for low, high in steps(order)])


def read_order(text):
    """The order that a text of a count and of words a<b tells."""
    words = text.split(" ")
    if not is_number(words[0]):
        raise NoText(0)
    for place, word in enumerate(words):
        if place > 0 and not is_pair(word):
            raise NoText(place)
    return Order(int(words[0]), [read_pair(word) for word in words[1:]])
