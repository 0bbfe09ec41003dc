"""Points 2, 24 and 25: a desk that keeps orders."""

import re
import unittest
from itertools import product

from evenclimb.desk import Desk
from evenclimb.errors import NoLine, NoName, NoText, NoWord
from evenclimb.orders import Order
from evenclimb.texts import order_text
from helper import (FORTY_FIGURES, answer, bars, beside, even_orders, fields_order, four_fold, hexagon, mixed_cube,
                    one_thing, plain_between, plain_climbs, plain_even, plain_height, plain_steps, row_of, samples,
                    shape, side_way, square, uneven_orders)

SQUARE = "4 0<1 0<2 1<3 2<3"
SIDE_WAY = "5 0<1 0<2 1<3 2<4 3<4"
NUMBER = re.compile("0|[1-9][0-9]*")
NAME = re.compile("[a-z]{1,8}")
WORD = "([^ ]+)"
# For each first word how many words follow, and which of them are new names, names and numbers.
PLACES = {"side": (3, [1], [2, 3], []), "turn": (2, [1], [2], []), "cut": (4, [1], [2], [3, 4]), "drop": (1, [], [1], []),
          "show": (1, [], [1], []), "even": (1, [], [1], []), "count": (3, [], [1], [2, 3]),
          "climb": (4, [], [1], [2, 3, 4]), "join": (3, [], [1], [2, 3]), "meet": (3, [], [1], [2, 3]),
          "all": (0, [], [], [])}
NO_NAMES = ["A", "aB", "abcdefghi", "a1", "1", "0", "a-b", "a_b", "a.", "ABCDEFGH", "{", "`", "@", "a<b", "abcdefgH"]


def plain_text(order):
    return " ".join([str(order.count)] + [f"{a}<{b}" for a, b in plain_steps(order)])


def plain_read(text):
    """The order of a text, or a refusal as the helper's answer tells it."""
    for at, word in enumerate(text.split(" ")):
        if not re.fullmatch(NUMBER if at == 0 else f"(?:{NUMBER.pattern})<(?:{NUMBER.pattern})", word):
            return ("NoText", at)
    count, *pairs = text.split(" ")
    return answer(Order, int(count), [tuple(int(number) for number in pair.split("<")) for pair in pairs])


def plain_cut(order, a, b):
    things = plain_between(order, a, b)
    return Order(len(things), [(low, high) for low, one in enumerate(things) for high, other in enumerate(things)
                               if order.at_most(one, other)])


def plain_new(standing, words, numbers):
    """The order that a line makes, or a refusal; the words and numbers are known to be such."""
    order = standing[words[2]]
    if words[0] == "turn":
        return Order(order.count, [(b, a) for a, b in order.pairs])
    if words[0] == "side":
        other = standing[words[3]]
        return ("NoCount",) if order.count * other.count > 24 else beside(order, other)
    for number in numbers:
        if number >= order.count:
            return ("NoThing", number)
    return plain_cut(order, *numbers) if order.at_most(*numbers) else ("NoPart",)


def plain_ask(order, first, numbers):
    """The answer to a line that asks of an order, or a refusal."""
    if first == "show":
        return plain_text(order)
    if first == "even":
        return " ".join(["even"] + [str(plain_height(order, thing)) for thing in range(order.count)])
    if first == "number":
        climbs = plain_climbs(order, numbers[0], numbers[-1]) if max(numbers) < order.count else []
        return str(climbs.index(numbers)) if numbers in climbs else ("NoClimb",)
    for number in numbers[:2]:
        if number >= order.count:
            return ("NoThing", number)
    if first in ("join", "meet"):
        return str(order.join(*numbers) if first == "join" else order.meet(*numbers))
    climbs = plain_climbs(order, *numbers[:2])
    if first == "count":
        return str(len(climbs))
    return " ".join(map(str, climbs[numbers[2]])) if numbers[2] < len(climbs) else ("NoNumber",)


def plain_order_line(standing, line):
    match = re.fullmatch(f"order {WORD} (.*)", line)
    if not match:
        return ("NoLine",)
    if not NAME.fullmatch(match[1]):
        return ("NoWord",)
    made = plain_read(match[2])
    if isinstance(made, tuple):
        return made
    standing[match[1]] = made
    return match[1]


def plain_tell(standing, line):
    """What a desk on which these orders stand is to answer; standing is changed as the desk is."""
    words = line.split(" ")
    if words[0] == "order":
        return plain_order_line(standing, line)
    known = dict(PLACES, number=(max(2, len(words) - 1), [], [1], list(range(2, len(words)))))
    count, news, names, numbers = known.get(words[0], (-1, [], [], []))
    if len(words) != count + 1 or "" in words:
        return ("NoLine",)
    if any(not NAME.fullmatch(words[place]) for place in news):
        return ("NoWord",)
    for place in names:
        if words[place] not in standing:
            return ("NoName", words[place])
    for place in numbers:
        if not NUMBER.fullmatch(words[place]):
            return ("NoText", place)
    if words[0] == "all":
        return " ".join(sorted(standing)) or "none"
    if words[0] == "drop":
        del standing[words[1]]
        return words[1]
    whole = [int(words[place]) for place in numbers]
    if not news:
        return plain_ask(standing[words[1]], words[0], whole)
    made = plain_new(standing, words, whole)
    if isinstance(made, tuple):
        return made
    standing[words[1]] = made
    return words[1]


def told(desk, *lines):
    return [answer(desk.tell, line) for line in lines]


def desk_of(orders):
    desk = Desk()
    for name, order in orders.items():
        desk.tell(f"order {name} {plain_text(order)}")
    return desk


def all_of(desk):
    """All that stands on the desk, told by it."""
    names = desk.tell("all")
    return (names, [desk.tell("show " + name) for name in names.split(" ")] if names != "none" else [])


def all_that_stands(orders):
    return (" ".join(sorted(orders)) or "none", [plain_text(orders[name]) for name in sorted(orders)])


class AnswersTest(unittest.TestCase):
    def setUp(self):
        self.desk = Desk()
        told(self.desk, "order a " + SQUARE, "order b " + SIDE_WAY)

    def check(self, *rows):
        for line, expected in rows:
            with self.subTest(line=line):
                self.assertEqual(self.desk.tell(line), expected)

    def test_an_empty_desk(self):
        self.assertEqual(Desk().tell("all"), "none")

    def test_order_and_show(self):
        self.check(("order one 1", "one"), ("show one", "1"), ("show a", SQUARE), ("show b", SIDE_WAY),
                   ("order c 4 2<3 1<3 0<2 0<1 0<3 0<0 0<1", "c"), ("show c", SQUARE), ("all", "a b c one"))

    def test_a_name_that_stands_already(self):
        self.check(("order a 2 0<1", "a"), ("show a", "2 0<1"), ("all", "a b"), ("show b", SIDE_WAY))

    def test_names_of_one_and_of_eight_letters(self):
        self.check(("order z 1", "z"), ("order abcdefgh 2 0<1", "abcdefgh"), ("order zzzzzzzz 1", "zzzzzzzz"),
                   ("turn mnopqrst a", "mnopqrst"), ("all", "a abcdefgh b mnopqrst z zzzzzzzz"),
                   ("show abcdefgh", "2 0<1"))

    def test_names_like_first_words(self):
        self.check(("order order 1", "order"), ("order all 2 0<1", "all"), ("side side all order", "side"),
                   ("show side", "2 0<1"), ("turn drop all", "drop"), ("drop drop", "drop"), ("drop all", "all"),
                   ("all", "a b order side"))

    def test_an_order_called_none(self):
        desk = Desk()
        self.assertEqual(told(desk, "order none 1", "all", "show none", "drop none", "all"),
                         ["none", "none", "1", "none", "none"])
        self.assertEqual(told(desk, "show none"), [("NoName", "none")])

    def test_side(self):
        self.check(("order two 2 0<1", "two"), ("order three 3 0<1 1<2", "three"), ("side c two three", "c"),
                   ("show c", "6 0<1 0<3 1<2 1<4 2<5 3<4 4<5"), ("side d three two", "d"),
                   ("show d", "6 0<1 0<2 1<3 2<3 2<4 3<5 4<5"), ("side e two two", "e"), ("show e", SQUARE),
                   ("show two", "2 0<1"), ("show three", "3 0<1 1<2"))

    def test_turn(self):
        self.check(("turn c b", "c"), ("show c", "5 1<0 2<0 3<1 4<2 4<3"), ("turn d c", "d"), ("show d", SIDE_WAY),
                   ("show b", SIDE_WAY))

    def test_cut(self):
        self.check(("cut c b 0 3", "c"), ("show c", "3 0<1 1<2"), ("cut d b 2 2", "d"), ("show d", "1"),
                   ("cut e b 0 4", "e"), ("show e", SIDE_WAY), ("show b", SIDE_WAY))

    def test_the_new_one_may_be_one_of_the_others(self):
        self.check(("turn a a", "a"), ("show a", "4 1<0 2<0 3<1 3<2"), ("cut b b 1 4", "b"), ("show b", "3 0<1 1<2"),
                   ("side b a b", "b"), ("all", "a b"))
        self.assertEqual(self.desk.tell("show b"), plain_text(beside(Order(4, [(1, 0), (2, 0), (3, 1), (3, 2)]), row_of(3))))
        self.check(("order c 3 0<1 1<2", "c"), ("side a c a", "a"), ("drop b", "b"), ("cut c c 0 1", "c"),
                   ("side c c c", "c"), ("show c", SQUARE))

    def test_what_is_made_stays_when_the_others_go(self):
        self.check(("turn c b", "c"), ("side d a a", "d"), ("cut e b 0 3", "e"), ("drop b", "b"), ("order a 1", "a"),
                   ("show c", "5 1<0 2<0 3<1 4<2 4<3"), ("show d", plain_text(beside(square(), square()))),
                   ("show e", "3 0<1 1<2"), ("all", "a c d e"))

    def test_drop(self):
        self.check(("drop a", "a"), ("all", "b"), ("show b", SIDE_WAY), ("drop b", "b"), ("all", "none"),
                   ("order a 1", "a"), ("all", "a"))
        self.assertEqual(told(self.desk, "drop b", "drop c"), [("NoName", "b"), ("NoName", "c")])

    def test_even(self):
        self.check(("even a", "even 0 1 1 2"), ("order one 1", "one"), ("even one", "even 0"),
                   ("order down 3 2<1 1<0", "down"), ("even down", "even 2 1 0"))

    def test_five(self):
        words = self.desk.tell("even b").split(" ")
        self.assertEqual((words[0], len(words)), ("five", 6))
        self.assertTrue(bars(side_way(), [int(word) for word in words[1:]]))

    def test_even_and_five_of_samples(self):
        for order in even_orders() + uneven_orders():
            self.desk.tell("order c " + order_text(order))
            word, *numbers = self.desk.tell("even c").split(" ")
            if plain_even(order):
                heights = [plain_height(order, thing) for thing in range(order.count)]
                self.assertEqual((word, [int(number) for number in numbers]), ("even", heights))
            else:
                self.assertEqual((word, len(numbers)), ("five", 5))
                self.assertTrue(bars(order, [int(number) for number in numbers]))

    def test_count_climb_and_number(self):
        self.check(("count a 0 3", "2"), ("count a 2 2", "1"), ("count a 3 0", "0"), ("count a 1 2", "0"),
                   ("climb a 0 3 0", "0 1 3"), ("climb a 0 3 1", "0 2 3"), ("climb b 0 4 0", "0 1 3 4"),
                   ("climb b 0 4 1", "0 2 4"), ("climb b 3 3 0", "3"), ("number b 0 2 4", "1"), ("number b 0 1 3 4", "0"),
                   ("number a 0 2 3", "1"), ("number a 3", "0"), ("number a 0 1", "0"))

    def test_climbs_of_samples(self):
        for order in (mixed_cube(), fields_order(), four_fold(), hexagon()):
            self.desk.tell("order c " + order_text(order))
            low, high = order.lowest(), order.highest()
            climbs = plain_climbs(order, low, high)
            self.assertEqual(self.desk.tell(f"count c {low} {high}"), str(len(climbs)))
            for number, climb in enumerate(climbs):
                row = " ".join(str(thing) for thing in climb)
                self.assertEqual(self.desk.tell(f"climb c {low} {high} {number}"), row)
                self.assertEqual(self.desk.tell(f"number c {row}"), str(number))

    def test_join_and_meet(self):
        self.check(("join a 1 2", "3"), ("meet a 1 2", "0"), ("join b 2 1", "4"), ("meet b 3 2", "0"), ("join b 1 1", "1"),
                   ("meet b 1 1", "1"), ("join b 1 3", "3"), ("meet b 1 3", "1"))

    def test_all_is_sorted(self):
        self.check(("order zeta 1", "zeta"), ("order ab 1", "ab"), ("order aa 1", "aa"), ("order c 1", "c"),
                   ("all", "a aa ab b c zeta"), ("drop ab", "ab"), ("all", "a aa b c zeta"))

    def test_answers_are_texts(self):
        for line in ("order c 1", "side d c c", "turn d c", "cut d c 0 0", "show c", "even c", "even b", "count a 0 3",
                     "climb a 0 3 0", "number a 0 1", "join a 1 2", "meet a 1 2", "drop d", "all"):
            self.assertIs(type(self.desk.tell(line)), str)

    def test_who_asks_again_is_told_the_same(self):
        for line in ("show a", "even a", "even b", "count b 0 4", "climb b 0 4 1", "number b 0 2 4", "join a 1 2", "all"):
            self.assertEqual(self.desk.tell(line), self.desk.tell(line))

    def test_two_desks_beside_one_another(self):
        one, other = Desk(), Desk()
        self.assertEqual(told(one, "order a " + SQUARE, "order b 1"), ["a", "b"])
        self.assertEqual(told(other, "all", "show a", "order a 1", "all"), ["none", ("NoName", "a"), "a", "a"])
        self.assertEqual(told(one, "show a", "all", "drop a", "all"), [SQUARE, "a b", "a", "b"])
        self.assertEqual(told(other, "show a", "all", "drop a", "all"), ["1", "a", "a", "none"])
        self.assertEqual(one.tell("all"), "b")
        self.assertEqual(Desk().tell("all"), "none")

    def test_many_orders(self):
        names = ["".join(letters) for letters in product("abcd", repeat=3)]
        for place, name in enumerate(reversed(names)):
            self.desk.tell(f"order {name} " + order_text(row_of(place % 24 + 1)))
        self.assertEqual(self.desk.tell("all"), " ".join(sorted(names + ["a", "b"])))
        for place, name in enumerate(reversed(names)):
            self.assertEqual(self.desk.tell("show " + name), order_text(row_of(place % 24 + 1)))

    def test_lines_of_722_signs(self):
        line = "order abcdefgh 24" + "".join(f" {thing}<{thing + 1}" for thing in range(23))
        line = line + " 10<12" * ((722 - len(line)) // 6)
        self.assertGreater(len(line), 716)
        self.check((line, "abcdefgh"), ("show abcdefgh", order_text(row_of(24))))
        things = "number abcdefgh " + " ".join(str(thing) for thing in range(24))
        self.check((things, "0"))
        self.assertEqual(answer(self.desk.tell, "number a" + " 0" * 357), ("NoClimb",))
        self.assertEqual(answer(self.desk.tell, "count a 0 " + "7" * 712), ("NoThing", int("7" * 712)))
        self.assertEqual(answer(self.desk.tell, "climb a 0 3 " + "7" * 710), ("NoNumber",))


class RefusalsTest(unittest.TestCase):
    def setUp(self):
        self.desk = Desk()
        told(self.desk, "order a " + SQUARE, "order b " + SIDE_WAY, "order d 24" + order_text(row_of(24))[2:])
        self.kept = all_of(self.desk)

    def check(self, expected, *lines):
        for line in lines:
            with self.subTest(line=line):
                self.assertEqual(answer(self.desk.tell, line), expected)
                self.assertEqual(all_of(self.desk), self.kept)

    def test_no_such_first_word(self):
        self.check(("NoLine",), "", " ", "  ", "a", "show", "Show a", "SHOW a", "shows a", "sho a", "none", "ALL", "4",
                   "order:", "all,", "orders a 1", "ORDER a 1", "help", "0<1", "~", "evenness a", "text a", "new a 1")

    def test_how_many_words(self):
        self.check(("NoLine",), "order", "order c", "side c a", "side c a a a", "side", "turn c", "turn c a a", "cut c a 0",
                   "cut c a 0 3 3", "cut", "drop", "drop a b", "show a b", "even", "even a 0", "count a 0", "count a 0 3 0",
                   "count", "climb a 0 3", "climb a 0 3 0 0", "climb", "number", "number a", "join a 1", "join a 1 2 3",
                   "meet a", "meet a 1 2 3", "all a", "all 0", "join", "meet")

    def test_words_without_signs(self):
        self.check(("NoLine",), " all", "all ", "all  ", " show a", "show  a", "show a ", "show ", "drop ", "even ",
                   "even  a", "turn  a", "turn c ", "turn  c a", "turn c  a", "side c  a", "side c a ", "side  a b",
                   "cut c a  3", "cut c a 0 ", "cut  a 0 3", "cut c  0 3", "count a  3", "count a 0 ", "count  0 3",
                   "climb a 0 3 ", "climb a 0  0", "climb a  3 0", "climb  0 3 0", "number a ", "number  0", "number a 0 ",
                   "number a  0", "number a 0  1", "join a  1", "join a 1 ", "meet a  1", "meet  1 2", "order  1",
                   "order  c 1", " order c 1", "order  ", "order ", "order   1")

    def test_blanks_in_the_text_of_an_order_are_its_own(self):
        self.check(("NoText", 0), "order c ", "order c  ", "order c  1", "order c  2 0<1")
        self.check(("NoText", 1), "order c 1 ", "order c 2  0<1", "order c 1  ")
        self.check(("NoText", 2), "order c 2 0<1 ")

    def test_new_names_that_are_none(self):
        for name in NO_NAMES:
            self.check(("NoWord",), f"order {name} 1", f"side {name} a a", f"turn {name} a", f"cut {name} a 0 3")

    def test_names_by_which_no_order_stands(self):
        for name in NO_NAMES + ["c", "ab", "all", "none", "aa", "abcdefgh"]:
            self.check(("NoName", name), f"side c {name} a", f"side c a {name}", f"turn c {name}", f"cut c {name} 0 3",
                       f"drop {name}", f"show {name}", f"even {name}", f"count {name} 0 3", f"climb {name} 0 3 0",
                       f"number {name} 0 1", f"join {name} 1 2", f"meet {name} 1 2", f"side c {name} x", f"side a {name} a")

    def test_the_first_of_two_names(self):
        self.check(("NoName", "x"), "side c x y", "side c x x", "side c a x", "side x x a", "side c x A")

    def test_words_that_are_no_numbers(self):
        for word in ("x", "00", "01", "-1", "+1", "1_0", "_1", "1.", "0x1", "a", "0<1", "1e0", "~", "1,"):
            self.check(("NoText", 2), f"count a {word} 2", f"join a {word} 2", f"meet a {word} 2", f"climb a {word} 3 0",
                       f"number a {word}", f"number a {word} {word} 3", f"count a {word} {word}", f"join a {word} 9")
            self.check(("NoText", 3), f"count a 0 {word}", f"join a 1 {word}", f"meet a 9 {word}", f"climb a 0 {word} x",
                       f"number a 0 {word}", f"cut c a {word} 3", f"cut c a {word} {word}", f"cut a a {word} 9")
            self.check(("NoText", 4), f"climb a 0 3 {word}", f"cut c a 0 {word}", f"number a 0 1 {word}",
                       f"climb a 9 9 {word}", f"cut c a 9 {word}", f"number a 9 9 {word} {word}")

    def test_the_text_of_an_order(self):
        self.check(("NoText", 0), "order c x", "order c 0<1", "order a 01", "order c -1", "order c 4<", "order a b")
        self.check(("NoText", 1), "order c 2 0", "order c 2 x 0<1", "order a 2 0<01", "order c 0 x", "order c 25 1")
        self.check(("NoText", 3), "order c 2 0<1 1<0 z", "order c 2 0<9 9<0 0<")
        self.check(("NoCount",), "order c 0", "order c 25", "order a 0 9<9", f"order c {FORTY_FIGURES}")
        self.check(("NoThing", 5), "order c 2 0<5", "order a 2 0<1 5<7 1<0", "order c 5 1<0 0<1 0<5")
        self.check(("NoOrder", (0, 1)), "order c 2 0<1 1<0", "order a 3 1<0 0<1")
        self.check(("NoJoin", (0, 1)), "order c 2", "order a 3 2<0 2<1", "order c 2 0<0")

    def test_numbers_that_are_no_things(self):
        for number in (4, 5, 23, 24, FORTY_FIGURES):
            self.check(("NoThing", number), f"count a {number} 0", f"count a 0 {number}", f"join a {number} 0",
                       f"join a 0 {number}", f"meet a {number} 9", f"meet a 3 {number}", f"climb a {number} 0 0",
                       f"climb a 3 {number} 9", f"cut c a {number} 0", f"cut c a 3 {number}", f"cut a a {number} {number}",
                       f"climb a {number} 77 7")

    def test_no_number_no_part_no_count(self):
        self.check(("NoNumber",), "climb a 0 3 2", "climb a 3 0 0", "climb a 1 2 0", "climb a 2 2 1",
                   f"climb b 0 4 {FORTY_FIGURES}")
        self.check(("NoPart",), "cut c a 3 0", "cut c a 1 2", "cut a a 1 0", "cut b b 2 3")
        self.check(("NoCount",), "side c b b", "side b b b", "side c d d", "side a a d", "side c d b")

    def test_what_is_no_climb(self):
        self.check(("NoClimb",), "number a 0 3", "number a 3 0", "number a 0 0", "number a 4", "number a 0 1 4",
                   f"number a {FORTY_FIGURES}", "number a 0 1 2 3", "number b 0 4", "number a 9 9", "number a 1 2")

    def test_several_are_due(self):
        # Each line has all that is refused further down, and is refused with what stands here.
        self.check(("NoLine",), "cut A x 0 y z", "side A x", "turn A  x", "order  x", "count x y", "climb  x 0 0")
        self.check(("NoWord",), "cut A x y z", "side A x y", "turn A x", "order A x", "order A 0", "order A ", "cut A a 9 0",
                   "side A b b")
        self.check(("NoName", "x"), "cut c x y z", "side c x y", "count x y z", "climb x 00 9 9", "number x y 9",
                   "join x 9 y", "cut b x 9 0")
        self.check(("NoText", 3), "cut c a y z", "climb a 9 y z", "count a 9 y", "number a 9 y", "meet a 9 -1")
        self.check(("NoText", 4), "cut c a 9 z", "climb a 9 9 z", "number a 9 9 z")
        self.check(("NoThing", 9), "cut c a 9 8", "climb a 9 8 99", "climb a 3 9 99", "cut c a 3 9")

    def test_fields_and_classes(self):
        for line, kind, field, value in (("show c", NoName, "name", "c"), ("count a x 2", NoText, "at", 2),
                                         ("order c 1 x", NoText, "at", 1)):
            with self.assertRaises(kind) as caught:
                self.desk.tell(line)
            self.assertEqual(getattr(caught.exception, field), value)
        for line, kind in (("", NoLine), ("order A 1", NoWord)):
            with self.assertRaises(kind):
                self.desk.tell(line)

    def test_a_refusal_on_an_empty_desk(self):
        desk = Desk()
        for line in ("show a", "order a 0", "order a x", "order A 1", "turn a a", "side a a a", "all ", "drop a"):
            with self.assertRaises(ValueError):
                desk.tell(line)
            self.assertEqual(desk.tell("all"), "none")


class AgainstAPlainDeskTest(unittest.TestCase):
    def setUp(self):
        self.orders = {"a": square(), "bb": row_of(7), "abcdefgh": Order(3, [(2, 0), (0, 1)])}

    def check_lines(self, lines):
        desk = desk_of(self.orders)
        for line in lines:
            standing = dict(self.orders)
            expected = plain_tell(standing, line)
            self.assertEqual(answer(desk.tell, line), expected, line)
            if line.partition(" ")[0] in ("order", "side", "turn", "cut", "drop"):
                self.assertEqual(all_of(desk), all_that_stands(standing), line)
                if isinstance(expected, str):
                    desk = desk_of(self.orders)
        self.assertEqual(all_of(desk), all_that_stands(self.orders))

    def test_lines_of_up_to_three_words(self):
        pool = ["a", "bb", "abcdefgh", "new", "A", "abcdefghi", "", "0", "2", "7", "01", "-1", "1<2", "order", "all"]
        firsts = list(PLACES) + ["order", "number", "", "evn", "All"]
        for size in range(3):
            self.check_lines([" ".join((first,) + words) for first in firsts for words in product(pool, repeat=size)])

    def test_lines_of_four_words(self):
        pool = ["a", "bb", "new", "A", "", "0", "3", "7", "01", "x"]
        for first in ("side", "turn", "cut", "count", "climb", "number", "join", "meet", "show", "order"):
            self.check_lines([" ".join((first,) + words) for words in product(pool, repeat=3)])

    def test_lines_of_five_words(self):
        pool = ["0", "1", "2", "3", "4", "6", "7", "", "x", "00"]
        for first, names, seconds in (("cut", ["a", "new", "A"], ["a", "bb", "no"]),
                                      ("climb", ["a", "bb", "no"], pool), ("number", ["a", "abcdefgh"], pool)):
            self.check_lines([" ".join((first,) + words) for words in product(names, seconds, pool, pool)])

    def test_texts_of_orders(self):
        pool = ["0", "1", "2", "3", "0<1", "1<0", "1<2", "0<3", "1<1", "", "x", "00", "0<01", "1<"]
        for size in range(1, 4):
            self.check_lines(["order new " + " ".join(words) for words in product(pool, repeat=size)])
        self.check_lines([f"order {name} {text}" for name in ("a", "new", "A", "") for text in ("1", "x", "", "0", "2 0<1")])

    def test_many_lines_on_one_desk(self):
        desk, standing = Desk(), {}
        names, numbers = ["a", "b", "c"], ["0", "1", "3"]
        lines = [f"order {name} {plain_text(order)}" for name, order in zip("abc", (square(), side_way(), row_of(2)))]
        lines += [f"side {new} {one} {two}" for new, one, two in product(names, repeat=3)]
        lines += [f"order {name} {plain_text(order)}" for name, order in zip("cab", (square(), row_of(3), hexagon()))]
        lines += [f"cut {new} {one} {low} {high}" for new, one, low, high in product(names, names, numbers, numbers)]
        lines += [f"turn {new} {one}" for new, one in product(names, repeat=2)] + ["drop b"] + lines + ["drop a", "drop a"]
        for line in lines + [f"side {new} {one} {two}" for new, one, two in product(names, repeat=3)]:
            self.assertEqual(answer(desk.tell, line), plain_tell(standing, line), line)
            self.assertEqual(all_of(desk), all_that_stands(standing), line)

    def test_samples_stand_as_they_are(self):
        for order in samples() + [one_thing(), beside(row_of(4), row_of(6))]:
            kept = shape(order)
            desk = desk_of({"s": order})
            self.assertEqual(desk.tell("show s"), plain_text(order))
            low, high = order.lowest(), order.highest()
            self.assertEqual(told(desk, f"cut t s {low} {high}", "show t"), ["t", plain_text(order)])
            self.assertEqual(told(desk, "turn s s", "turn s s", "show s"), ["s", "s", plain_text(order)])
            self.assertEqual(shape(order), kept)


if __name__ == "__main__":
    unittest.main()
