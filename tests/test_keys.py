"""[5], [6] and [7]: worths, their numbers, keys and their order, names and references."""

import itertools
import random
import unittest

from stemkeep.keys import (
    before, in_order, is_key, is_number_text, is_reference, is_stem, is_worth, meet, number_of, number_text,
)
from tests.support import NUMBER, by_key, compare_keys

ALLOWED = "".join(chr(code) for code in range(32, 127) if chr(code) != "%")


def nested(depth, thing, wrap):
    """Tell a thing so many times within one another."""
    for _ in range(depth):
        thing = wrap(thing)
    return thing


NO_TEXTS = [
    None, True, False, 0, 7, -1, 2.5, b"a", [], ["a"], ("a",), (), {}, {"a": 1}, {1}, object(), str, len,
    nested(39, "a", lambda thing: [thing]), nested(39, "a", lambda thing: (thing,)),
    nested(39, "a", lambda thing: {"a": thing}), nested(39, (), lambda thing: ("a", thing)),
]


class TestWorths(unittest.TestCase):

    def test_every_sign_from_the_blank_to_the_tilde_but_one(self):
        for code in list(range(0, 300)) + [0x7fff, 0xd800, 0x1f600]:
            with self.subTest(code):
                self.assertIs(is_worth(chr(code)), chr(code) in ALLOWED)
                self.assertIs(is_worth("a" + chr(code) + "b"), chr(code) in ALLOWED)

    def test_of_any_length(self):
        self.assertIs(is_worth(""), True)
        self.assertIs(is_worth(ALLOWED * 3), True)
        self.assertIs(is_worth("x" * 200), True)
        self.assertIs(is_worth("x" * 5000), True)
        self.assertIs(is_worth("x" * 199 + "%"), False)
        self.assertIs(is_worth("%" + "x" * 199), False)

    def test_anything_else_is_no_worth(self):
        for thing in NO_TEXTS:
            with self.subTest(repr(thing)):
                self.assertIs(is_worth(thing), False)


class TestNumberOf(unittest.TestCase):

    def test_what_worths_begin_with(self):
        told = {
            "": 0, "0": 0, "7": 7, "007": 7, "42x7": 42, "x42": 0, " 42": 0, "4 2": 4, "12.9": 12, "1e3": 1,
            "-7": -7, "+7": 7, "--7": 7, "---7": -7, "+-7": -7, "-+7": -7, "-+-7": 7, "+--+-07a": -7, "++": 0,
            "-": 0, "+": 0, "-x": 0, "--x7": 0, "- 7": 0, "-0": 0, "--0": 0, "7-": 7, "7-8": 7, "7+8": 7, "-.5": 0,
            "+" * 199 + "3": 3, "-" * 199 + "3": -3, "-" * 198 + "3": 3, "-+" * 99 + "35": -35,
        }
        for worth, number in told.items():
            with self.subTest(worth):
                self.assertEqual(number_of(worth), number)
                self.assertIs(type(number_of(worth)), int)

    def test_each_sign_ahead_of_figures(self):
        for sign in ALLOWED:
            figures = {"+": 12, "-": -12}.get(sign, int(sign + "12") if sign in "0123456789" else 0)
            self.assertEqual(number_of(sign + "12"), figures, sign)
            self.assertEqual(number_of("12" + sign), int("12" + sign) if sign in "0123456789" else 12, sign)
            self.assertEqual(number_of("-1" + sign + "2"), int(f"-1{sign}2") if sign in "0123456789" else -1, sign)

    def test_long_rows_of_figures(self):
        for size in (40, 41, 63, 64, 65, 127, 128, 129, 200, 2000):
            with self.subTest(size):
                figures = ("1234567890" * size)[:size]
                self.assertEqual(number_of(figures), int(figures))
                self.assertEqual(number_of("-" + figures + "x"), -int(figures))
                self.assertEqual(number_of("0" * size + "5"), 5)
                self.assertEqual(number_of("9" + "0" * size), 9 * 10 ** size)


class TestNumberText(unittest.TestCase):

    def test_own_texts(self):
        for number, text in {0: "0", 7: "7", -7: "-7", 10: "10", 100: "100", -120: "-120"}.items():
            with self.subTest(number):
                self.assertEqual(number_text(number), text)
                self.assertIs(type(number_text(number)), str)

    def test_great_numbers(self):
        for size in (40, 41, 63, 64, 65, 66, 127, 128, 129, 2000):
            for number in (10 ** size, 10 ** size - 1, 10 ** size + 7, 12 * 10 ** size + 10 ** (size // 2)):
                with self.subTest(size=size):
                    self.assertEqual(number_text(number), str(number))
                    self.assertEqual(number_text(-number), "-" + str(number))
                    self.assertEqual(number_of(number_text(-number)), -number)
                    self.assertIs(is_number_text(number_text(-number)), True)

    def test_which_worths_are_own_texts(self):
        yes = ["0", "7", "-7", "10", "100", "-10", "1234567890", "9" * 41, "-" + "9" * 41, "9" * 200]
        no = [
            "", "-", "+", "-0", "+0", "00", "007", "-07", "-00", "+7", "--7", "+-7", "7-", "7 ", " 7", "7x", "x", "7.0",
            "1e3", "1_000", "- 7", "0x1", "0" * 200, "01", "a7", "~", "/", ":", "7:", "7/",
        ]
        for worth in yes:
            with self.subTest(worth):
                self.assertIs(is_number_text(worth), True)
        for worth in no:
            with self.subTest(worth):
                self.assertIs(is_number_text(worth), False)

    def test_short_worths_of_signs_and_figures(self):
        for size in range(5):
            for signs in itertools.product("+-019a ", repeat=size):
                worth = "".join(signs)
                self.assertIs(is_number_text(worth), NUMBER.fullmatch(worth) is not None, worth)
                self.assertIs(is_number_text(worth), worth == number_text(number_of(worth)), worth)


class TestKeys(unittest.TestCase):

    def test_one_to_forty_signs(self):
        for size, told in {0: False, 1: True, 2: True, 39: True, 40: True, 41: False, 200: False}.items():
            with self.subTest(size):
                self.assertIs(is_key("k" * size), told)
                self.assertIs(is_key("7" * size), told)
        for code in range(0, 300):
            self.assertIs(is_key(chr(code)), chr(code) in ALLOWED, code)
        self.assertIs(is_key("a%"), False)
        self.assertIs(is_key("\n"), False)

    def test_anything_else_is_no_key(self):
        for thing in NO_TEXTS:
            with self.subTest(repr(thing)):
                self.assertIs(is_key(thing), False)

    def test_the_order_of_keys(self):
        rising = [
            "-" + "9" * 39, "-100", "-99", "-10", "-9", "-2", "-1", "0", "1", "2", "9", "10", "11", "99", "100",
            "9" * 39, "1" + "0" * 39, "9" * 40,
            " ", " 1", "!", "+", "+1", "-", "--1", "-0", "-01", "-1x", "-x",
            "0.5", "00", "007", "01", "10a", "1e3", "1x", "9-", "9x",
            ":", "A", "AB", "Z", "_", "a", "aa", "ab", "b", "~", "~~",
        ]
        for (at, one), (to, other) in itertools.product(enumerate(rising), repeat=2):
            self.assertIs(before(one, other), at < to, (one, other))
        self.assertEqual(in_order(rising[::-1]), rising)
        mixed = random.Random(3).sample(rising, len(rising))
        self.assertEqual(in_order(mixed), rising)

    def test_a_beginning_is_ahead(self):
        self.assertIs(before("ab", "abc"), True)
        self.assertIs(before("abc", "ab"), False)
        self.assertIs(before("a" * 39, "a" * 40), True)
        self.assertEqual(in_order(["abc", "b", "ab", "a"]), ["a", "ab", "abc", "b"])

    def test_as_many_times_as_they_are_there(self):
        self.assertEqual(in_order([]), [])
        self.assertEqual(in_order(["b", "2", "b", "10", "2", "b"]), ["2", "2", "10", "b", "b", "b"])

    def test_four_hundred_keys(self):
        dice = random.Random(5)
        keys = ["".join(dice.choice("-+01 a~") for _ in range(dice.randint(1, 4))) for _ in range(400)]
        self.assertEqual(in_order(keys), sorted(keys, key=by_key))
        for one, other in zip(keys, keys[1:]):
            self.assertIs(before(one, other), compare_keys(one, other) < 0)

    def test_the_list_that_is_told_is_a_new_one(self):
        for keys in (["b", "a", "1"], ["1", "a", "b"], []):
            handed = list(keys)
            told = in_order(handed)
            self.assertIsInstance(told, list)
            self.assertIsNot(told, handed)
            self.assertEqual(handed, keys)
            told.append("z")
            self.assertEqual(handed, keys)
            self.assertEqual(in_order(handed), sorted(keys))


class TestReferences(unittest.TestCase):

    def test_names_have_one_to_eight_small_letters(self):
        for name in ("a", "z", "az", "abcdefg", "abcdefgh"):
            self.assertIs(is_reference((name, ())), True, name)
        wrong = ["", "abcdefghi", "A", "aB", "a1", "1", "a b", " a", "a_", "`", "{", "\u00e4", "\u0131", "a\n", "%"]
        for name in wrong:
            self.assertIs(is_reference((name, ())), False, name)
            self.assertIs(is_reference((name, ("k",))), False, name)

    def test_at_most_six_keys(self):
        for size in range(9):
            self.assertIs(is_reference(("a", ("k",) * size)), size <= 6, size)
        self.assertIs(is_reference(("a", ("k" * 40,) * 6)), True)

    def test_each_one_a_key(self):
        for wrong in ["", "k" * 41, "%", "\n", None, 1, True, ["k"], ("k",)]:
            for keys in ((wrong,), ("k", wrong), (wrong, "k"), ("k", wrong, "k")):
                with self.subTest(repr(keys)):
                    self.assertIs(is_reference(("a", keys)), False)

    def test_a_tuple_of_a_name_and_a_tuple(self):
        for thing in (
            ["a", ("k",)], ("a", ["k"]), ("a", "k"), ("a", ""), ("a",), ("a", None), ("a", ("k",), ()), (("k",), "a"),
            (), "a", "ab", (None, ()), (1, ()), (True, ()), (["a"], ()), (("a",), ()), ("a", {}), ("a", {"k": 1}),
            {"a": ()}, (b"a", ()), ("a", (("k",),)),
        ):
            with self.subTest(repr(thing)):
                self.assertIs(is_reference(thing), False)
        for thing in NO_TEXTS:
            with self.subTest(repr(thing)):
                self.assertIs(is_reference(thing), False)
                self.assertIs(is_reference((thing, ())), False)
                if thing != ():
                    self.assertIs(is_reference(("a", thing)), thing == ("a",))
                self.assertIs(is_reference(("a", (thing,))), False)

    def test_stems_and_meeting(self):
        told = [
            (("a", ()), ("a", ()), True, True),
            (("a", ("x",)), ("a", ("x",)), True, True),
            (("a", ()), ("a", ("x",)), True, False),
            (("a", ("x",)), ("a", ("x", "y")), True, False),
            (("a", ("x",)), ("a", ("x", "y", "1", "2", "3", "4")), True, False),
            (("a", ("x",)), ("a", ("y",)), False, False),
            (("a", ("x",)), ("a", ("y", "x")), False, False),
            (("a", ("x", "y")), ("a", ("x", "z")), False, False),
            (("a", ("x", "y")), ("a", ("y", "y")), False, False),
            (("a", ("x", "z")), ("a", ("x", "y", "z")), False, False),
            (("a", ("1",)), ("a", ("10",)), False, False),
            (("a", ("1",)), ("a", ("01",)), False, False),
            (("a", ()), ("b", ()), False, False),
            (("a", ()), ("ab", ()), False, False),
            (("a", ()), ("b", ("x",)), False, False),
            (("a", ("x",)), ("b", ("x",)), False, False),
        ]
        for one, other, forth, back in told:
            with self.subTest(one=one, other=other):
                self.assertIs(is_stem(one, other), forth)
                self.assertIs(is_stem(other, one), back)
                self.assertIs(meet(one, other), forth or back)
                self.assertIs(meet(other, one), forth or back)

    def test_arguments_by_their_names(self):
        self.assertIs(is_worth(thing="a"), True)
        self.assertIs(is_key(thing="a"), True)
        self.assertIs(is_reference(thing=("a", ())), True)
        self.assertEqual(number_of(worth="-5x"), -5)
        self.assertEqual(number_text(number=-5), "-5")
        self.assertIs(is_number_text(worth="-5"), True)
        self.assertIs(before(other="b", one="a"), True)
        self.assertEqual(in_order(keys=["b", "a"]), ["a", "b"])
        self.assertIs(is_stem(other=("a", ("x",)), one=("a", ())), True)
        self.assertIs(meet(other=("a", ("x",)), one=("a", ())), True)


if __name__ == "__main__":
    unittest.main()
