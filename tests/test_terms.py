"""[20] to [23]: expressions, and scenes."""

import math
import random
from fractions import Fraction

from stemkeep.arrays import Arrays
from stemkeep.dealings import Dealings
from stemkeep.errors import Erring, Held
from stemkeep.terms import Scene, is_expression
from tests.support import Case
from tests.test_arrays import NO_WORTHS, state

ONE = ("is", "1")
SIGNS = ["+", "-", "*", "/", "#", "<", ">", "=", "_", "[", "]", "&", "!"]
NO_NAMES = ["", "A", "a1", "abcdefghi", "a b", "^a", None, 1, True, b"a", ("a",), ["a"]]
PLACES = [("var", "a", []), ("at", "a", [ONE]), ("short", [ONE])]
EXPRESSIONS = PLACES + [
    ONE, ("is", ""), ("is", "w" * 200), ("var", "abcdefgh", [ONE] * 7), ("at", "z", []), ("short", [ONE, ONE]),
    ("op", "+", ONE, ONE), ("not", ONE), ("minus", ONE), ("length", ONE), ("piece", ONE, ONE, ONE),
    ("part", ONE, ONE, ONE), ("order", PLACES[0]), ("back", PLACES[1]), ("data", PLACES[2]), ("other", PLACES[0], ONE),
]


def is_(worth):
    return ("is", worth)


def var(name, *keys):
    return ("var", name, [("is", key) for key in keys])


def at(name, *keys):
    return ("at", name, [("is", key) for key in keys])


def short(*keys):
    return ("short", [("is", key) for key in keys])


def within(kind, thing, times):
    """Tell a thing so many times within lists, tuples or dicts."""
    for _ in range(times):
        thing = {"list": [thing], "tuple": (thing,), "not": ("not", thing), "dict": {"a": thing}}[kind]
    return thing


class TestIsExpression(Case):

    def test_each_word(self):
        for thing in EXPRESSIONS:
            with self.subTest(thing):
                self.assertIs(is_expression(thing), True)
        for sign in SIGNS:
            self.assertIs(is_expression(("op", sign, ONE, is_("a"))), True)
        self.assertIs(is_expression(thing=ONE), True)

    def test_a_part_out_in_or_twice(self):
        for thing in EXPRESSIONS:
            for place in range(len(thing)):
                with self.subTest(thing=thing, place=place):
                    self.assertIs(is_expression(thing[:place] + thing[place + 1:]), False)
                    self.assertIs(is_expression(thing[:place] + (thing[place],) + thing[place:]), False)
            for more in (ONE, [], None, "a"):
                self.assertIs(is_expression(thing + (more,)), False)

    def test_lists_for_tuples_and_tuples_for_lists(self):
        for thing in EXPRESSIONS:
            self.assertIs(is_expression(list(thing)), False)
        for thing in (("var", "a", ()), ("at", "a", (ONE,)), ("short", (ONE,)), ("var", "a", [["is", "1"]])):
            self.assertIs(is_expression(thing), False)
        for thing in (("not", ["is", "1"]), ("op", "+", ["is", "1"], ONE), ("op", "+", ONE, ["is", "1"])):
            self.assertIs(is_expression(thing), False)

    def test_something_else_for_each_part(self):
        for thing in EXPRESSIONS:
            for place in range(1, len(thing)):
                for other in (None, 1, True, b"1", object(), {}, "%", ("is",), ["x"], [None], (), ("is", "%")):
                    changed = thing[:place] + (other,) + thing[place + 1:]
                    with self.subTest(repr(changed)):
                        self.assertIs(is_expression(changed), False)

    def test_words(self):
        for word in ("", "set", "Is", "is ", "ops", "free_all", None, 1, True, b"is", ("is",), ["is"], {}):
            for more in ((), ("1",), (ONE,), (ONE, ONE), ("a", []), ([ONE],)):
                self.assertIs(is_expression((word,) + more), False)

    def test_signs(self):
        for sign in ["", "++", "+-", "**", "//", "%", "^", "'", "$", "?", " ", "<=", "|", None, 1, b"+", ("+",), ["+"]]:
            self.assertIs(is_expression(("op", sign, ONE, ONE)), False)

    def test_worths(self):
        for worth in NO_WORTHS:
            self.assertIs(is_expression(("is", worth)), False)
        self.assertIs(is_expression(("is", "~ !\"'")), True)

    def test_names(self):
        for name in NO_NAMES:
            for word in ("var", "at"):
                self.assertIs(is_expression((word, name, [])), False)
                self.assertIs(is_expression((word, name, [ONE])), False)

    def test_places_alone_where_places_stand(self):
        for place in PLACES:
            for thing in (("order", place), ("back", place), ("data", place), ("other", place, place)):
                self.assertIs(is_expression(thing), True)
        for other in EXPRESSIONS[3:]:
            if other[0] not in ("var", "at", "short"):
                for thing in (("order", other), ("back", other), ("data", other), ("other", other, ONE)):
                    with self.subTest(thing):
                        self.assertIs(is_expression(thing), False)

    def test_short_has_one_part_at_least(self):
        self.assertIs(is_expression(("short", [])), False)
        self.assertIs(is_expression(("short", [ONE] * 9)), True)
        self.assertIs(is_expression(("order", ("short", []))), False)

    def test_parts_that_are_none(self):
        for parts in (None, "1", ONE, {}, [None], [ONE, None], [ONE, "1"], [[ONE]], [("short", [])], [["is", "1"]]):
            for thing in (("var", "a", parts), ("at", "a", parts), ("short", parts)):
                self.assertIs(is_expression(thing), False)

    def test_other_things(self):
        for thing in (None, True, 0, 1, "", "is", b"is", [], (), {}, {"is": "1"}, object(), Case, is_expression, "1"):
            self.assertIs(is_expression(thing), False)

    def test_forty_within_one_another(self):
        for kind in ("list", "tuple", "dict", "not"):
            for thing in (None, (), [], "is", {}, ("is", 1)):
                self.assertIs(is_expression(within(kind, thing, 38)), False)
        self.assertIs(is_expression(within("not", ONE, 39)), True)
        self.assertIs(is_expression(("op", "+", within("list", ONE, 38), ONE)), False)
        self.assertIs(is_expression(("var", "a", [within("tuple", ONE, 37)])), False)
        one = ONE
        for _ in range(19):
            one = ("at", "a", [one])
        self.assertIs(is_expression(one), True)

    def test_nothing_is_changed(self):
        parts = [ONE, ("at", "b", [ONE])]
        is_expression(("var", "a", parts))
        self.assertEqual(parts, [ONE, ("at", "b", [ONE])])


class SceneCase(Case):

    def setUp(self):
        self.own = Arrays()
        self.shared = Arrays()
        self.dealings = Dealings(self.shared)
        self.scene = Scene(self.own, self.dealings, 1)

    def told(self, expression):
        return self.scene.reckon(expression)

    def op(self, sign, one, other):
        return self.told(("op", sign, ("is", one), ("is", other)))

    def errs(self, word, expression):
        """Ask for an error with its word, that leaves the last reference as it was."""
        last = self.scene.last()
        self.assertEqual(self.refused(Erring, self.scene.reckon, expression).word, word)
        self.assertEqual(self.scene.last(), last)

    def errs_place(self, word, place, **more):
        last = self.scene.last()
        self.assertEqual(self.refused(Erring, self.scene.place, place, **more).word, word)
        self.assertEqual(self.scene.last(), last)


class TestSigns(SceneCase):

    NUMBERS = {"0": 0, "": 0, "7": 7, "-7": -7, "3": 3, "-3": -3, "12abc": 12, "abc": 0, "--4": 4, "+-5x": -5, "007": 7}

    def test_numbers(self):
        for one, first in self.NUMBERS.items():
            for other, second in self.NUMBERS.items():
                with self.subTest(one=one, other=other):
                    self.assertEqual(self.op("+", one, other), str(first + second))
                    self.assertEqual(self.op("-", one, other), str(first - second))
                    self.assertEqual(self.op("*", one, other), str(first * second))
                    self.assertEqual(self.op("<", one, other), "1" if first < second else "0")
                    self.assertEqual(self.op(">", one, other), "1" if first > second else "0")
                    self.assertEqual(self.op("&", one, other), "1" if first and second else "0")
                    self.assertEqual(self.op("!", one, other), "1" if first or second else "0")
                    if second == 0:
                        self.errs("nought", ("op", "/", is_(one), is_(other)))
                        self.errs("nought", ("op", "#", is_(one), is_(other)))
                        continue
                    quotient = Fraction(first, second)
                    self.assertEqual(self.op("/", one, other), str(math.trunc(quotient)))
                    self.assertEqual(self.op("#", one, other), str(first - second * math.floor(quotient)))

    def test_quotients_and_rests_of_numbers_below_0(self):
        told = [("7", "2", "3", "1"), ("-7", "2", "-3", "1"), ("7", "-2", "-3", "-1"), ("-7", "-2", "3", "-1"),
                ("-6", "3", "-2", "0"), ("1", "-5", "0", "-4"), ("-1", "5", "0", "4"), ("0", "-5", "0", "0")]
        for one, other, quotient, rest in told:
            self.assertEqual((self.op("/", one, other), self.op("#", one, other)), (quotient, rest))

    def test_great_numbers(self):
        great = "9" * 41
        self.assertEqual(self.op("*", great, "-" + great), str(-int(great) ** 2))
        self.assertEqual(self.op("+", great, "1"), "1" + "0" * 41)
        self.assertEqual(self.op("/", "-1" + "0" * 40, "3"), "-" + "3" * 40)
        self.assertEqual(self.op("#", "-1" + "0" * 40, "3"), "2")

    def test_texts(self):
        self.assertEqual(self.op("_", "ab", "cd"), "abcd")
        self.assertEqual(self.op("_", "", "cd"), "cd")
        self.assertEqual(self.op("_", "1", "-2"), "1-2")
        told = [("=", "a", "a", 1), ("=", "", "", 1), ("=", "1", "01", 0), ("=", "a", "A", 0), ("=", "a", "a ", 0),
                ("[", "abc", "b", 1), ("[", "abc", "abc", 1), ("[", "abc", "ac", 0), ("[", "abc", "", 1),
                ("[", "", "", 1), ("[", "", "a", 0), ("[", "b", "abc", 0),
                ("]", "b", "a", 1), ("]", "a", "b", 0), ("]", "a", "a", 0), ("]", "", "", 0), ("]", "a", "", 1),
                ("]", "", "a", 0), ("]", "ab", "a", 1), ("]", "10", "9", 0), ("]", "9", "10", 1), ("]", "a", "Z", 1),
                ("&", "1x", "x1", 0), ("!", "x", "", 0), ("!", "0x", "-1", 1), ("&", "00", "1", 0), ("&", "2", "-3", 1)]
        for sign, one, other, truth in told:
            with self.subTest(sign=sign, one=one, other=other):
                self.assertEqual(self.op(sign, one, other), str(truth))

    def test_not_and_minus(self):
        for worth, number in self.NUMBERS.items():
            self.assertEqual(self.told(("not", is_(worth))), "0" if number else "1")
            self.assertEqual(self.told(("minus", is_(worth))), str(-number))

    def test_length(self):
        for worth in ("", "a", " ", "w" * 200, "\"\""):
            self.assertEqual(self.told(("length", is_(worth))), str(len(worth)))

    def test_piece(self):
        def piece(one, other, nth):
            return self.told(("piece", is_(one), is_(other), is_(nth)))
        self.assertEqual([piece("a,b,,c", ",", str(nth)) for nth in range(-1, 7)], ["", "", "a", "b", "", "c", "", ""])
        self.assertEqual([piece("abc", "", str(nth)) for nth in (-1, 0, 1, 2, 3)], ["", "", "abc", "", ""])
        self.assertEqual([piece("", "", str(nth)) for nth in (0, 1, 2)], ["", "", ""])
        self.assertEqual([piece("", ",", str(nth)) for nth in (0, 1, 2)], ["", "", ""])
        self.assertEqual([piece("aaaaa", "aa", str(nth)) for nth in (1, 2, 3, 4)], ["", "", "a", ""])
        self.assertEqual([piece("xaaay", "aa", str(nth)) for nth in (1, 2, 3)], ["x", "ay", ""])
        self.assertEqual([piece("abc", "abc", str(nth)) for nth in (1, 2, 3)], ["", "", ""])
        self.assertEqual([piece("abc", "z", str(nth)) for nth in (1, 2)], ["abc", ""])
        self.assertEqual([piece("a,b", ",", nth) for nth in ("2x", "x", "", "--1", "9" * 41, "-" + "9" * 41)],
                         ["b", "", "", "a", "", ""])

    def test_part(self):
        def part(first, last, one="abcde"):
            return self.told(("part", is_(one), is_(str(first)), is_(str(last))))
        self.assertEqual(part(1, 5), "abcde")
        self.assertEqual(part(2, 4), "bcd")
        self.assertEqual(part(3, 3), "c")
        self.assertEqual(part(3, 2), "")
        self.assertEqual(part(5, 1), "")
        self.assertEqual(part(0, 2), "ab")
        self.assertEqual(part(-5, 2), "ab")
        self.assertEqual(part(-5, -1), "")
        self.assertEqual(part(-5, 0), "")
        self.assertEqual(part(4, 9), "de")
        self.assertEqual(part(5, "9" * 41), "e")
        self.assertEqual(part("-" + "9" * 41, 1), "a")
        self.assertEqual(part(6, 9), "")
        self.assertEqual(part("9" * 41, "9" * 41), "")
        self.assertEqual(part("2x", "3y"), "bc")
        self.assertEqual(part("", ""), "")
        self.assertEqual(part(1, 1, ""), "")

    def test_ops_within_ops(self):
        one = ("op", "-", ("op", "-", is_("9"), is_("4")), is_("3"))
        other = ("op", "-", is_("9"), ("op", "-", is_("4"), is_("3")))
        self.assertEqual((self.told(one), self.told(other)), ("2", "8"))
        self.assertEqual(self.told(("op", "_", one, ("not", ("op", "=", one, other)))), "21")

    def test_both_sides_are_reckoned(self):
        for sign, one in (("&", "0"), ("!", "1")):
            self.errs("missing", ("op", sign, is_(one), var("none")))
            self.errs("nought", ("op", sign, is_(one), ("op", "/", ONE, is_("x"))))

    def test_many_within_one_another(self):
        one = ONE
        for _ in range(11):
            one = ("op", "+", one, one)
        self.assertEqual(self.told(one), "2048")
        one = ("is", "x")
        for _ in range(11):
            one = ("var", "a", [one])
        self.own.put(("a", ("x",)), "x")
        self.assertEqual(self.told(one), "x")
        one = ONE
        for _ in range(39):
            one = ("not", one)
        self.assertEqual(self.told(one), "0")


class TestPlaces(SceneCase):

    def setUp(self):
        SceneCase.setUp(self)
        for keys in ((), ("1",), ("2", "x"), ("10",), ("b",)):
            self.own.put(("a", keys), "own" + "".join(keys))
            self.shared.put(("a", keys), "shared" + "".join(keys))
        self.shared.put(("c", ("1", "2")), "c12")
        self.shared.put(("c", ("1", "3")), "")

    def test_own_and_shared_worths(self):
        self.assertEqual(self.told(var("a")), "own")
        self.assertEqual(self.told(var("a", "2", "x")), "own2x")
        self.assertEqual(self.told(at("a")), "shared")
        self.assertEqual(self.told(at("a", "10")), "shared10")
        self.assertEqual(self.told(at("c", "1", "3")), "")
        self.errs("missing", var("c", "1", "2"))
        self.errs("missing", var("a", "2"))
        self.errs("missing", at("a", "2"))
        self.errs("missing", at("d"))

    def test_short_ones_are_of_the_shared_ones(self):
        self.told(at("a", "1"))
        self.assertEqual(self.told(short("10")), "shared10")
        self.assertEqual(self.told(short("2", "x")), "shared2x")
        self.assertEqual(self.scene.last(), ("a", ("2", "x")))
        self.errs("missing", short("y"))
        self.assertEqual(self.told(short("x")), "shared2x")

    def test_order_and_back(self):
        for make in (var, at):
            self.assertEqual(self.told(("order", make("a", "2"))), "10")
            self.assertEqual(self.told(("back", make("a", "2"))), "1")
            self.assertEqual(self.told(("order", make("a", ""))), "1")
            self.assertEqual(self.told(("back", make("a", ""))), "b")
            self.assertEqual(self.told(("order", make("a", "2", ""))), "x")
            self.assertEqual(self.told(("back", make("a", "b", ""))), "")
            self.assertEqual(self.told(("order", make("a", "b"))), "")
            self.assertEqual(self.told(("order", make("a", "3"))), "10")
            self.assertEqual(self.told(("order", make("none", "3"))), "")
        self.told(at("a", "1"))
        self.assertEqual(self.told(("order", short("1"))), "2")
        self.assertEqual(self.told(("back", short(""))), "b")
        self.assertEqual(self.scene.last(), ("a", ("",)))
        self.assertEqual(self.told(("order", short("2", ""))), "x")
        self.assertEqual(self.scene.last(), ("a", ("2", "")))
        self.assertEqual(self.told(short("x")), "shared2x")

    def test_data(self):
        for make in (var, at):
            self.assertEqual(self.told(("data", make("a"))), "11")
            self.assertEqual(self.told(("data", make("a", "1"))), "1")
            self.assertEqual(self.told(("data", make("a", "2"))), "10")
            self.assertEqual(self.told(("data", make("a", "3"))), "0")
        self.assertEqual(self.told(("data", short("2"))), "10")
        self.assertEqual(self.told(("data", var("c"))), "0")

    def test_other(self):
        self.assertEqual(self.told(("other", var("a"), is_("o"))), "own")
        self.assertEqual(self.told(("other", var("c"), is_("o"))), "o")
        self.assertEqual(self.told(("other", at("c", "1", "3"), is_("o"))), "")
        self.assertEqual(self.told(("other", at("c", "1", "4"), is_("o"))), "o")
        self.assertEqual(self.told(("other", short("2"), is_("o"))), "c12")
        self.assertEqual(self.told(("other", var("c"), ("other", var("d"), is_("o")))), "o")

    def test_other_is_reckoned_only_where_it_is_asked(self):
        self.assertEqual(self.told(("other", var("a"), var("none"))), "own")
        self.assertEqual(self.told(("other", at("a", "1"), at("c", "none"))), "shared1")
        self.assertEqual(self.scene.last(), ("a", ("1",)))
        self.errs("missing", ("other", var("c"), var("none")))
        self.assertEqual(self.told(("other", at("a", "none"), at("c", "1", "2"))), "c12")
        self.assertEqual(self.scene.last(), ("c", ("1", "2")))
        self.errs("nought", ("other", at("a", "none"), ("op", "/", ONE, is_("0"))))

    def test_nothing_is_changed(self):
        told = (state(self.own), state(self.shared))
        for thing in EXPRESSIONS:
            try:
                self.scene.reckon(thing)
            except Erring:
                pass
        self.assertEqual((state(self.own), state(self.shared)), told)

    def test_place(self):
        self.assertEqual(self.scene.place(var("a")), (True, ("a", ())))
        self.assertEqual(self.scene.place(var("none", "1", "x")), (True, ("none", ("1", "x"))))
        self.assertIsNone(self.scene.last())
        self.assertEqual(self.scene.place(at("a", "1", "x")), (False, ("a", ("1", "x"))))
        self.assertEqual(self.scene.last(), ("a", ("1", "x")))
        self.assertEqual(self.scene.place(short("y", "z")), (False, ("a", ("1", "y", "z"))))
        self.assertEqual(self.scene.last(), ("a", ("1", "y", "z")))
        self.assertEqual(self.scene.place(at("b")), (False, ("b", ())))
        self.assertIsNone(self.scene.last())
        self.assertEqual(self.scene.place(("at", "a", [("op", "+", ONE, ONE), at("c", "1", "2")])),
                         (False, ("a", ("2", "c12"))))
        told = self.scene.place(var("a", "1"))
        self.assertIs(type(told), tuple)
        self.assertIs(told[0], True)

    def test_place_with_the_last_key_let_be_empty(self):
        for make, own in ((var, True), (at, False)):
            self.assertEqual(self.scene.place(make("a", ""), empty=True), (own, ("a", ("",))))
            self.assertEqual(self.scene.place(make("a", "1", ""), empty=True), (own, ("a", ("1", ""))))
            self.assertEqual(self.scene.place(make("a", "1"), empty=True), (own, ("a", ("1",))))
            self.assertEqual(self.scene.place(make("a"), empty=True), (own, ("a", ())))
            for more in ({}, {"empty": False}):
                self.errs_place("key", make("a", ""), **more)
                self.errs_place("key", make("a", "1", ""), **more)
            self.errs_place("key", make("a", "", ""), empty=True)
            self.errs_place("key", make("a", "", "1"), empty=True)
            self.errs_place("key", make("a", "k" * 41), empty=True)
        self.scene.recall(("b", ("x", "y")))
        self.assertEqual(self.scene.place(short(""), empty=True), (False, ("b", ("x", ""))))
        self.assertEqual(self.scene.last(), ("b", ("x", "")))
        self.errs_place("key", short(""))


class TestLast(SceneCase):

    def setUp(self):
        SceneCase.setUp(self)
        for keys in (("1",), ("2",), ("1", "2"), ("2", "2"), ("3", "1")):
            self.shared.put(("a", keys), keys[-1])
            self.own.put(("a", keys), keys[-1])
            self.shared.put(("b", keys), keys[-1])

    def last_behind(self, expression):
        self.scene.reckon(expression)
        return self.scene.last()

    def test_none_at_first(self):
        self.assertIsNone(self.scene.last())
        self.errs("head", short("1"))
        self.errs("head", ("order", short("")))
        self.errs_place("head", short("1"))

    def test_at_and_short_places_are_the_last_one(self):
        self.assertEqual(self.last_behind(at("a", "1")), ("a", ("1",)))
        self.assertEqual(self.last_behind(short("1", "2")), ("a", ("1", "2")))
        self.assertEqual(self.last_behind(("data", at("b", "9"))), ("b", ("9",)))
        self.assertEqual(self.last_behind(("order", at("b", "3", ""))), ("b", ("3", "")))
        self.assertEqual(self.last_behind(("back", short(""))), ("b", ("3", "")))
        self.assertEqual(self.last_behind(("other", short("7"), is_("o"))), ("b", ("3", "7")))
        self.assertIsNone(self.last_behind(("data", at("a"))))
        self.errs("head", short("1"))

    def test_var_places_leave_it(self):
        self.scene.recall(("b", ("9",)))
        for expression in (var("a", "1"), ("data", var("a")), ("order", var("a", "")), ("other", var("z"), is_("o"))):
            self.assertEqual(self.last_behind(expression), ("b", ("9",)))
        self.assertEqual(self.last_behind(("var", "a", [at("a", "1")])), ("a", ("1",)))

    def test_from_the_left(self):
        self.assertEqual(self.last_behind(("op", "+", at("a", "1"), at("b", "2"))), ("b", ("2",)))
        self.assertEqual(self.last_behind(("op", "_", at("a", "1", "2"), short("2"))), ("a", ("1", "2")))
        self.assertEqual(self.told(("op", "_", ("op", "_", at("a", "3", "1"), short("1")), at("b", "2"))), "112")
        self.scene.recall(None)
        self.errs("head", ("op", "_", short("1"), at("a", "1")))
        expression = ("piece", at("a", "1"), short("2"), ("op", "+", short("3", "1"), short("1")))
        self.assertEqual((self.told(expression), self.scene.last()), ("", ("a", ("3", "1"))))
        expression = ("part", at("a", "1", "2"), short("2"), ("data", short("9")))
        self.assertEqual((self.told(expression), self.scene.last()), ("", ("a", ("1", "9"))))
        self.assertEqual(self.last_behind(("op", "&", is_("0"), at("a", "1"))), ("a", ("1",)))

    def test_parts_ahead_of_the_place(self):
        self.assertEqual(self.last_behind(("at", "a", [at("b", "1"), short("2")])), ("a", ("1", "2")))
        self.scene.recall(("b", ("9",)))
        self.assertEqual(self.told(("at", "a", [short("1"), short("2")])), "2")
        self.assertEqual(self.scene.last(), ("a", ("1", "2")))
        self.scene.recall(("b", ("9", "9")))
        self.assertEqual(self.told(("short", [at("a", "3", "1")])), "1")
        self.assertEqual(self.scene.last(), ("a", ("3", "1")))
        self.assertEqual(self.scene.place(("short", [at("b", "1"), short("2")])), (False, ("b", ("1", "2"))))
        self.assertEqual(self.told(("order", ("short", [("op", "_", at("a", "1"), is_("")), is_("")]))), "2")
        self.assertEqual(self.scene.last(), ("a", ("1", "")))
        self.scene.recall(None)
        self.assertEqual(self.told(("short", [at("a", "1")])), "1")

    def test_it_is_as_it_was_where_it_errs(self):
        for last in (None, ("b", ("9",)), ("b", ("1", "2", "3", "4", "5", "6"))):
            self.scene.recall(last)
            self.errs("missing", ("op", "+", at("a", "1"), at("b", "none")))
            self.errs("missing", at("a", "none"))
            self.errs("missing", ("var", "z", [at("a", "1")]))
            self.errs("nought", ("op", "/", at("a", "1"), is_("x")))
            self.errs("nought", ("op", "#", at("a", "1"), is_("")))
            self.errs("key", ("at", "a", [at("b", "1"), is_("")]))
            self.errs("key", ("op", "_", at("a", "1"), ("order", at("b"))))
            self.errs("deep", ("at", "a", [at("b", "1")] * 7))
            self.errs("deep", ("op", "+", at("a", "1", "2"), short("1", "2", "3", "4", "5", "6")))
            self.errs("head", ("op", "+", ("data", at("a")), short("1")))
            self.errs("long", ("op", "_", at("a", "1"), is_("w" * 2000)))
            self.errs_place("missing", ("at", "a", [at("b", "1"), at("b", "none")]))
            self.errs_place("key", ("at", "a", [at("b", "1"), is_("k" * 41)]))

    def test_it_is_as_it_was_where_it_is_held(self):
        self.dealings.start(2)
        self.dealings.put(2, ("b", ("2",)), "in")
        self.scene.recall(("b", ("9",)))
        told = [at("b", "2"), ("op", "+", at("a", "1"), at("b", "2")), ("data", at("b")), ("order", at("b", "1")),
                ("other", short("2"), is_("o")), ("var", "a", [at("a", "1"), at("b", "2", "2")]), short("2")]
        for expression in told:
            error = self.refused(Held, self.scene.reckon, expression)
            self.assertEqual((error.job, error.ref, self.scene.last()), (2, ("b", ("2",)), ("b", ("9",))))
        place = ("at", "c", [at("a", "1"), at("b", "2")])
        self.refused(Held, self.scene.place, place)
        self.assertEqual(self.scene.last(), ("b", ("9",)))
        self.assertEqual(self.scene.place(at("b", "2")), (False, ("b", ("2",))))
        self.assertEqual(Scene(self.own, self.dealings, 2).reckon(at("b", "2")), "in")
        self.dealings.end(2)
        self.assertEqual(self.told(at("b", "2")), "2")

    def test_recall(self):
        self.assertIsNone(self.scene.recall(("a", ("1", "x"))))
        self.assertEqual(self.scene.last(), ("a", ("1", "x")))
        self.assertEqual(self.told(short("2")), "2")
        self.assertIsNone(self.scene.recall(None))
        self.assertIsNone(self.scene.last())
        self.errs("head", short("2"))
        self.scene.recall(("a", ("9", "")))
        self.errs("missing", short("2"))
        self.scene.recall(("a", ("1", "")))
        self.assertEqual(self.told(short("2")), "2")

    def test_two_scenes_know_nothing_of_each_other(self):
        other = Scene(Arrays(), self.dealings, 2)
        self.told(at("a", "1"))
        self.assertIsNone(other.last())
        self.assertEqual(self.refused(Erring, other.reckon, var("a", "1")).word, "missing")


class TestErrors(SceneCase):

    def test_missing(self):
        self.own.put(("a", ("x", "y")), "w")
        self.own.put(("b", ()), "")
        self.errs("missing", var("a"))
        self.errs("missing", var("a", "x"))
        self.errs("missing", at("a", "x", "y"))
        self.assertEqual(self.told(var("b")), "")
        self.assertEqual(self.told(("order", var("a", "none"))), "x")
        self.assertEqual(self.told(("back", at("a", "none"))), "")
        self.assertEqual(self.told(("data", at("a", "none"))), "0")
        self.assertEqual(self.told(("other", var("a"), is_(""))), "")
        for expression in (("not", var("a")), ("minus", var("a")), ("length", var("a")), ("op", "+", ONE, var("a"))):
            self.errs("missing", expression)

    def test_key_of_places_without_parts(self):
        for word in ("order", "back"):
            self.errs("key", (word, var("a")))
            self.errs("key", (word, at("a")))

    def test_key_of_parts_that_are_none(self):
        for worth in ("", "k" * 41, "1" * 41):
            for make in (var, at):
                self.errs("key", make("a", worth))
                self.errs("key", make("a", worth, "1"))
                self.errs("key", make("a", "1", worth))
                self.errs("key", ("data", make("a", worth)))
                self.errs("key", ("other", make("a", worth), ONE))
                self.errs("key", ("order", make("a", worth, "1")))
                self.errs_place("key", make("a", worth))
            self.scene.recall(("a", ("1",)))
            self.errs("key", short(worth))
            self.errs("key", ("data", short(worth)))
            self.errs("key", ("back", short(worth, "1")))
            self.scene.recall(None)
        self.errs("key", ("order", var("a", "k" * 41)))
        self.errs("key", ("back", at("a", "1", "k" * 41)))
        self.assertEqual(self.told(("order", var("a", "k" * 40))), "")
        self.assertEqual(self.told(("order", var("a", ""))), "")
        self.assertEqual(self.told(("back", at("a", "1", ""))), "")

    def test_deep(self):
        six, seven = ["k"] * 6, ["k"] * 7
        for make in (var, at):
            self.errs("missing", make("a", *six))
            for keys in (seven, ["k"] * 20):
                self.errs("deep", make("a", *keys))
                for word in ("data", "order", "back"):
                    self.errs("deep", (word, make("a", *keys)))
                self.errs("deep", ("other", make("a", *keys), ONE))
                self.errs_place("deep", make("a", *keys), empty=True)
        self.assertEqual(self.told(("order", var("a", *six[:5], ""))), "")
        self.scene.recall(("a", ("1",)))
        self.errs("missing", short(*six))
        self.errs("deep", short(*seven))
        self.scene.recall(("a", ("1", "2", "3")))
        self.errs("missing", short(*six[:4]))
        self.errs("deep", short(*six[:5]))
        self.errs("deep", ("order", short(*six[:4], "")))

    def test_head_ahead_of_deep_ahead_of_key(self):
        for keys in (["k"] * 7, [""] * 7, [""], ["k" * 41] * 2):
            self.errs("head", short(*keys))
            self.errs("head", ("order", short(*keys)))
        for keys in ([""] * 7, ["k"] * 6 + ["k" * 41]):
            self.errs("deep", var("a", *keys))
            self.errs("deep", at("a", *keys))
            self.errs("deep", ("order", at("a", *keys)))
        self.scene.recall(("a", ("1", "2", "3")))
        self.errs("deep", short("", "", "", "", ""))
        self.errs("key", short("", "", "", ""))

    def test_parts_are_reckoned_ahead_of_all(self):
        self.errs("missing", ("short", [var("none")]))
        self.errs("missing", ("at", "a", [is_("")] + [ONE] * 7 + [var("none")]))
        self.errs("nought", ("short", [is_(""), ("op", "/", ONE, ONE), ("op", "/", ONE, is_("0"))]))
        self.shared.put(("a", ()), "1")
        self.scene.recall(("a", ("1",)))
        self.errs("head", ("short", [at("a"), ONE]))

    def test_long(self):
        thousand = ("op", "_", is_("w" * 500), is_("w" * 500))
        two = ("op", "_", thousand, thousand)
        self.assertEqual(self.told(two), "w" * 2000)
        self.errs("long", ("op", "_", two, is_("w")))
        self.errs("long", ("op", "_", is_("w"), two))
        self.assertEqual(self.told(("op", "_", two, is_(""))), "w" * 2000)
        self.assertEqual(self.told(("length", two)), "2000")
        self.errs("long", ("length", ("op", "_", two, ONE)))
        self.errs("long", ("part", ("op", "_", two, ONE), ONE, ONE))
        self.errs("long", ("other", var("none"), ("op", "_", two, ONE)))
        self.own.put(("a", ()), "w" * 2000)
        self.errs("long", ("op", "_", var("a"), ONE))

    def test_long_numbers(self):
        self.own.put(("n", ()), "9" * 2000)
        self.own.put(("h", ()), "9" * 1000)
        number = var("n")
        self.assertEqual(self.told(("op", "+", number, is_("0"))), "9" * 2000)
        self.errs("long", ("op", "+", number, ONE))
        self.errs("long", ("minus", number))
        self.errs("long", ("op", "-", is_("0"), number))
        self.assertEqual(len(self.told(("op", "*", var("h"), var("h")))), 2000)
        self.errs("long", ("op", "*", var("h"), number))
        self.assertEqual(self.told(("op", "/", number, var("h"))), str(int("9" * 2000) // int("9" * 1000)))
        self.errs("long", ("op", "*", ("op", "*", number, number), is_("0")))

    def test_arguments_by_their_names(self):
        scene = Scene(own=self.own, dealings=self.dealings)
        self.shared.put(("a", ("1",)), "w")
        self.assertEqual(scene.reckon(expression=at("a", "1")), "w")
        self.assertEqual(scene.place(empty=True, expression=at("a", "")), (False, ("a", ("",))))
        scene.recall(ref=None)
        self.assertIsNone(scene.last())
        Scene(job=7, dealings=self.dealings, own=self.own)

    def test_the_job_is_0_where_none_is_handed_in(self):
        self.dealings.start(0)
        self.dealings.put(0, ("a", ()), "w")
        self.assertEqual(Scene(self.own, self.dealings).reckon(at("a")), "w")
        self.assertEqual(self.refused(Held, self.scene.reckon, at("a")).job, 0)


class TestAsTheDocumentSays(SceneCase):
    """Whatever is reckoned: what errs leaves the last reference, and the same is told anew."""

    def expression(self, dice, level):
        if level == 0 or dice.random() < 0.15:
            return is_(dice.choice(["", "1", "2", "x", "-1", "ab"]))
        word = dice.choice(["place", "place", "op", "op", "not", "minus", "length", "piece", "part", "order", "back",
                            "data", "other"])
        inner = [self.expression(dice, level - 1) for _ in range(3)]
        if word == "place":
            return self.place(dice, level)
        if word in ("order", "back", "data"):
            return (word, self.place(dice, level))
        if word == "other":
            return (word, self.place(dice, level), inner[0])
        if word == "op":
            return (word, dice.choice(SIGNS), inner[0], inner[1])
        return (word, *inner) if word in ("piece", "part") else (word, inner[0])

    def place(self, dice, level):
        parts = [self.expression(dice, level - 1) for _ in range(dice.choice([1, 1, 2]))]
        return dice.choice([("var", "a", parts), ("at", "a", parts), ("short", parts)])

    def places_of(self, thing):
        """Tell the at and short places in an expression."""
        if isinstance(thing, list) or (isinstance(thing, tuple) and thing[0] != "is"):
            found = [place for part in thing for place in self.places_of(part)]
            return found + ([thing] if thing[0:1] in (("at",), ("short",)) else [])
        return []

    def test_random_expressions(self):
        told = 0
        for seed in range(1500):
            dice = random.Random(seed)
            self.setUp()
            for _ in range(12):
                keys = tuple(dice.choice(["1", "2", "x"]) for _ in range(dice.choice([1, 1, 2, 3])))
                dice.choice([self.own, self.shared]).put(("a", keys), dice.choice(["1", "2", "x", ""]))
            self.scene.recall(dice.choice([None, ("a", ("1",)), ("a", ("1", "2"))]))
            last = self.scene.last()
            expression = self.expression(dice, 4)
            self.assertIs(is_expression(expression), True)
            try:
                worth = self.scene.reckon(expression)
            except Erring as error:
                self.assertIn(error.word, ["missing", "nought", "key", "head", "deep"])
                self.assertEqual(self.scene.last(), last)
                continue
            told += 1
            if not self.places_of(expression):
                self.assertEqual(self.scene.last(), last)
            again = self.scene.last()
            self.scene.recall(last)
            self.assertEqual((self.scene.reckon(expression), self.scene.last()), (worth, again))
        self.assertGreater(told, 300)
