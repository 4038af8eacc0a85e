"""[13] and [14]: short references, and desks."""

import random

from stemkeep.arrays import Arrays, Desk, long
from stemkeep.errors import NoHead, NoRef, NoWorth, TooDeep
from tests.support import Case
from tests.test_arrays import NO_ASKING, NO_WORTHS, OPEN_ENDS, state

NO_SHORT_ONES = [
    ("", ()), ("", ("k",) * 7), ("", ("k" * 41,)), ("", ("%",)), ("", (1,)), ("", (None,)), ("", ["k"]), ("", "k"),
    ("", ("", "k")), ("", ("k", "", "k")), ("", ("k", "%")), ("", ("k", "k" * 41)), ("", ("k", None)), ("", ("k", 0)),
    ("", ("%", "k")), ("", None), ("",), ["", ("k",)], (None, ("k",)), (0, ("k",)), (False, ("k",)), (b"", ("k",)),
    ((), ("k",)), (" ", ("k",)), ("", ("k",), ()),
]


def desk_at(ref):
    """Tell arrays, and a desk of them whose last one is a reference."""
    arrays = Arrays()
    desk = Desk(arrays)
    desk.data(ref)
    return arrays, desk


class TestLong(Case):

    def test_the_head_of_the_last_one_and_the_keys(self):
        self.assertEqual(long(("a", ("x",)), ("y",)), ("a", ("y",)))
        self.assertEqual(long(("a", ("x",)), ("y", "z")), ("a", ("y", "z")))
        self.assertEqual(long(("a", ("x", "y")), ("z",)), ("a", ("x", "z")))
        self.assertEqual(long(("a", ("x", "y", "1")), ("2", "3")), ("a", ("x", "y", "2", "3")))
        self.assertEqual(long(("a", ("x", "y")), ("",)), ("a", ("x", "")))
        self.assertEqual(long(("a", ("x", "y")), ("z", "")), ("a", ("x", "z", "")))
        self.assertEqual(long(("a", ("x", "")), ("z",)), ("a", ("x", "z")))
        self.assertEqual(long(last=("a", ("x",)), keys=("y",)), ("a", ("y",)))

    def test_up_to_six_keys(self):
        for size in range(1, 7):
            for many in range(1, 7):
                last, keys = ("a", ("x",) * size), ("y",) * many
                if size - 1 + many <= 6:
                    self.assertEqual(long(last, keys), ("a", ("x",) * (size - 1) + keys))
                else:
                    self.refused(TooDeep, long, last, keys)

    def test_no_head(self):
        for last in (None, ("a", ())):
            self.refused(NoHead, long, last, ("y",))
            self.refused(NoHead, long, last, ("",))
            self.refused(NoHead, long, last, ("y",) * 7)


class TestDesk(Case):

    def test_does_what_arrays_do(self):
        arrays = Arrays()
        desk = Desk(arrays)
        self.assertIsNone(desk.put(("a", ("x",)), "1"))
        self.assertIsNone(desk.put(("a", ("x", "y")), "2"))
        self.assertIsNone(desk.put(("a", ("z",)), "3"))
        self.assertEqual(arrays.rows(("a", ())), [(("a", ("x",)), "1"), (("a", ("x", "y")), "2"), (("a", ("z",)), "3")])
        self.assertEqual(desk.read(("a", ("x",))), "1")
        self.assertEqual(desk.read(("a", ("q",))), "")
        self.assertEqual(desk.read(("a", ("q",)), otherwise=None), None)
        self.assertEqual(desk.read(("a", ("q",)), otherwise="o"), "o")
        self.assertEqual(desk.data(("a", ("x",))), 11)
        self.assertEqual(desk.order(("a", ("x",))), "z")
        self.assertEqual(desk.order(("a", ("",)), back=True), "z")
        self.assertEqual(desk.following(("a", ("x",))), ("a", ("x", "y")))
        self.assertEqual(desk.following(("a", ("z",)), back=True), ("a", ("x", "y")))
        self.assertEqual(desk.kill(("a", ("x",))), 2)
        self.assertEqual(arrays.count(), 1)

    def test_none_at_first(self):
        desk = Desk(Arrays())
        self.assertIsNone(desk.last())
        for ask in (desk.read, desk.data, desk.kill, desk.order, desk.following):
            self.refused(NoHead, ask, ("", ("k",)))
        self.refused(NoHead, desk.put, ("", ("k",)), "w")
        self.refused(NoHead, desk.order, ("", ("",)))
        self.assertIsNone(desk.last())

    def test_each_one_remembers_what_was_asked_for(self):
        desk = Desk(Arrays())
        for number, ask in enumerate((desk.read, desk.data, desk.kill, desk.order, desk.following)):
            ref = ("a", ("x", str(number)))
            ask(ref)
            self.assertEqual(desk.last(), ref)
            ask(("", ("y", "z")))
            self.assertEqual(desk.last(), ("a", ("x", "y", "z")))
        desk.put(("b", ("1",)), "w")
        self.assertEqual(desk.last(), ("b", ("1",)))
        desk.put(("", ("2", "3")), "w")
        self.assertEqual(desk.last(), ("b", ("2", "3")))
        self.assertEqual(desk.last(), ("b", ("2", "3")))

    def test_none_where_it_has_no_keys(self):
        for ask in ("read", "data", "kill", "following"):
            arrays, desk = desk_at(("a", ("x",)))
            getattr(desk, ask)(("b", ()))
            self.assertIsNone(desk.last())
            self.refused(NoHead, desk.read, ("", ("k",)))
        arrays, desk = desk_at(("a", ("x",)))
        desk.put(("b", ()), "w")
        self.assertIsNone(desk.last())
        self.refused(NoHead, desk.put, ("", ("k",)), "w")
        self.assertEqual(arrays.rows(("b", ())), [(("b", ()), "w")])

    def test_short_ones_do_what_the_long_ones_do(self):
        arrays, desk = desk_at(("a", ("x", "1")))
        desk.put(("", ("2",)), "two")
        desk.put(("", ("3", "4")), "four")
        desk.put(("", ("5",)), "five")
        nodes = [("x", "2"), ("x", "3", "4"), ("x", "3", "5")]
        self.assertEqual([ref[1] for ref, _ in arrays.rows(("a", ()))], nodes)
        desk.data(("a", ("x", "0")))
        self.assertEqual(desk.read(("", ("2",))), "two")
        self.assertEqual(desk.read(("", ("9",)), otherwise="o"), "o")
        self.assertEqual(desk.data(("", ("3",))), 10)
        self.assertEqual(desk.order(("", ("2",))), "3")
        self.assertEqual(desk.order(("", ("3",)), back=True), "2")
        self.assertEqual(desk.following(("", ("2",))), ("a", ("x", "3", "4")))
        self.assertEqual(desk.following(("", ("3",)), back=True), ("a", ("x", "2")))
        self.assertEqual(desk.kill(("", ("3",))), 2)
        self.assertEqual(desk.last(), ("a", ("x", "3")))

    def test_a_killed_one_is_still_the_last_one(self):
        arrays, desk = desk_at(("a", ("x",)))
        desk.put(("a", ("x", "1")), "w")
        self.assertEqual(desk.kill(("a", ("x", "1"))), 1)
        desk.put(("", ("2",)), "v")
        self.assertEqual(arrays.read(("a", ("x", "2"))), "v")

    def test_behind_an_order_with_an_empty_last_key(self):
        arrays, desk = desk_at(("a", ("x", "1")))
        for key in ("1", "2"):
            arrays.put(("a", ("x", key)), "w" + key)
        self.assertEqual(desk.order(("", ("",))), "1")
        self.assertEqual(desk.last(), ("a", ("x", "")))
        self.assertEqual(desk.order(("", ("",)), back=True), "2")
        self.assertEqual(desk.read(("", ("2",))), "w2")
        self.assertEqual(desk.order(("a", ("x", ""))), "1")
        self.assertEqual(desk.last(), ("a", ("x", "")))
        self.assertEqual(desk.order(("", ("2", ""))), "")
        self.assertEqual(desk.last(), ("a", ("x", "2", "")))
        desk.put(("", ("y",)), "w")
        self.assertEqual(arrays.read(("a", ("x", "2", "y"))), "w")
        self.assertEqual(desk.last(), ("a", ("x", "2", "y")))

    def test_short_ones_of_one_to_six_keys(self):
        for many in range(1, 7):
            arrays, desk = desk_at(("a", ("x",)))
            desk.put(("", ("k",) * many), "w")
            self.assertEqual(arrays.rows(("a", ())), [(("a", ("k",) * many), "w")])
            self.assertEqual(desk.last(), ("a", ("k",) * many))
        arrays, desk = desk_at(("a", ("x",) * 6))
        desk.put(("", ("k",)), "w")
        self.assertEqual(desk.last(), ("a", ("x",) * 5 + ("k",)))
        self.refused(TooDeep, desk.put, ("", ("k", "l")), "w")
        self.refused(TooDeep, desk.order, ("", ("k", "")))
        self.assertEqual(desk.order(("", ("",))), "k")

    def test_refusals_leave_all_as_it_was(self):
        for last in (None, ("a", ("x",)), ("a", ("x", "1", "2")), ("a", ("1", "2", "3", "4", "5", ""))):
            arrays = Arrays()
            arrays.put(("a", ("x",)), "w")
            desk = Desk(arrays)
            if last is not None:
                desk.order(last)
            told = state(arrays)
            for ref in NO_SHORT_ONES + [ref for ref in NO_ASKING if ref != ("", ("k",))]:
                with self.subTest(ref=repr(ref), last=last):
                    for ask in (desk.read, desk.data, desk.kill, desk.following, desk.order):
                        self.refused(NoRef, ask, ref)
                    self.refused(NoRef, desk.order, ref, back=True)
                    self.refused(NoRef, desk.put, ref, "w")
                    self.refused(NoRef, desk.put, ref, None)
            self.refused(NoRef, desk.order, ("a", ()))
            self.refused(NoRef, desk.order, ("", ("", "")))
            self.refused(NoRef, desk.order, ("", ("k",) * 6 + ("",)))
            self.assertEqual((desk.last(), state(arrays)), (last, told))

    def test_the_empty_last_key_is_for_order_alone(self):
        arrays, desk = desk_at(("a", ("x",)))
        arrays.put(("a", ("x",)), "w")
        for ref in [("", ("",)), ("", ("k", ""))] + OPEN_ENDS:
            for ask in (desk.read, desk.data, desk.kill, desk.following):
                self.refused(NoRef, ask, ref)
            self.refused(NoRef, desk.put, ref, "w")
        self.assertEqual(desk.last(), ("a", ("x",)))

    def test_the_order_of_refusals(self):
        desk = Desk(Arrays())
        self.refused(NoRef, desk.put, ("", ()), None)
        self.refused(NoRef, desk.put, ("", ("k",) * 7), None)
        self.refused(NoHead, desk.put, ("", ("k",) * 6), None)
        desk.data(("a", ()))
        self.refused(NoHead, desk.put, ("", ("k",) * 6), None)
        desk.data(("a", ("x", "y")))
        self.refused(NoRef, desk.put, ("", ("k",) * 7), None)
        self.refused(TooDeep, desk.put, ("", ("k",) * 6), None)
        for worth in NO_WORTHS:
            self.refused(NoWorth, desk.put, ("", ("k",) * 5), worth)
            self.refused(NoWorth, desk.put, ("b", ("k",)), worth)
            self.refused(NoWorth, desk.put, ("b", ()), worth)
        self.assertEqual(desk.last(), ("a", ("x", "y")))

    def test_two_desks_of_the_same_arrays(self):
        arrays = Arrays()
        one, other = Desk(arrays), Desk(arrays)
        one.put(("a", ("x", "1")), "one")
        self.assertIsNone(other.last())
        self.refused(NoHead, other.read, ("", ("1",)))
        other.put(("b", ("y",)), "other")
        self.assertEqual((one.last(), other.last()), (("a", ("x", "1")), ("b", ("y",))))
        one.put(("", ("2",)), "two")
        self.assertEqual(other.read(("a", ("x", "2"))), "two")
        self.assertEqual(arrays.count(), 3)
        arrays.kill(("a", ()))
        self.assertEqual(one.read(("", ("2",)), otherwise="gone"), "gone")

    def test_arguments_by_their_names(self):
        desk = Desk(arrays=Arrays())
        self.assertIsNone(desk.put(worth="w", ref=("a", ("x",))))
        self.assertEqual(desk.read(otherwise="o", ref=("", ("x",))), "w")
        self.assertEqual(desk.data(ref=("", ("x",))), 1)
        self.assertEqual(desk.order(back=True, ref=("", ("",))), "x")
        self.assertEqual(desk.following(back=True, ref=("a", ("y",))), ("a", ("x",)))
        self.assertEqual(desk.kill(ref=("", ("x",))), 1)

    def test_a_short_one_is_the_long_one(self):
        dice = random.Random(6)
        short, plain = Desk(Arrays()), Arrays()
        for _ in range(600):
            keys = tuple(dice.choice(["1", "2", "a"]) for _ in range(dice.randint(1, 3)))
            last = short.last()
            ref = ("", keys)
            if last is None or len(last[1]) + len(keys) > 7:
                ref = (dice.choice("ab"), keys)
            meant = ref if ref[0] else (last[0], last[1][:-1] + keys)
            worth = str(dice.randint(0, 9))
            first = dice.choice([("put", (worth,)), ("put", (worth,)), ("kill", ()), ("read", ())])
            for ask, more in (first, ("data", ())):
                asked = ref if ask != "data" else meant
                self.assertEqual(getattr(short, ask)(asked, *more), getattr(plain, ask)(meant, *more))
                self.assertEqual(short.last(), meant)
