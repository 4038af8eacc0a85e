"""[8] to [12]: arrays."""

import itertools
import random

from stemkeep.arrays import Arrays
from stemkeep.errors import NoRef, NoWorth, TooDeep, Within
from tests.support import Case, PlainArrays, by_key, by_row

NO_ASKING = [
    None, True, 0, 7, "", "a", b"a", (), ("a",), ["a", ()], ("a", []), ("a", ["k"]), ("a", "k"), ("a", ("k",), ()),
    ("", ("k",)), ("", ()), ("A", ()), ("abcdefghi", ()), ("a", ("", "k")),
    ("a", ("k" * 41,)), ("a", ("%",)), ("a", ("k",) * 7), ("a", (1,)), ("a", (None,)), ("a", (("k",),)), (None, ()),
    {"a": ()}, object(), ("a", None), (("a",), ()), (["a"], ("k",)), ("a", ("k", "%")), ("a", ("k", "k" * 41)),
    ("a", ("k", None)), ("a", ("k", 0)), ("a", ("k", ())), ("a", ("%", "k")), ("a", (7, "k")),
]
# What order alone takes.
OPEN_ENDS = [("a", ("",)), ("a", ("k", ""))]
NO_REFERENCES = NO_ASKING + OPEN_ENDS
NO_WORTHS = [None, True, False, 0, 7, b"a", [], ["a"], ("a",), {}, "%", "a%b", "\n", "\x7f", "\u00e4", object()]


def filled(nodes):
    """Tell arrays with a worth at each of the rows of keys of the name a."""
    arrays = Arrays()
    for number, keys in enumerate(nodes):
        arrays.put(("a", keys), f"w{number}")
    return arrays


def state(arrays):
    """Tell all that arrays keep."""
    return [arrays.rows((name, ())) for name in arrays.names()]


class TestNodes(Case):

    def test_none_at_first(self):
        arrays = Arrays()
        self.assertEqual(arrays.names(), [])
        self.assertEqual(arrays.count(), 0)
        self.assertEqual(arrays.read(("a", ())), "")
        self.assertEqual(arrays.data(("a", ())), 0)
        self.assertEqual(arrays.kill(("a", ())), 0)
        self.assertEqual(arrays.rows(("a", ())), [])
        self.assertEqual(arrays.order(("a", ("",))), "")
        self.assertIsNone(arrays.following(("a", ())))

    def test_put_gives_a_worth_and_tells_nothing(self):
        arrays = Arrays()
        self.assertIsNone(arrays.put(("a", ("x", "1")), "one"))
        self.assertEqual(arrays.read(("a", ("x", "1"))), "one")
        self.assertIsNone(arrays.put(("a", ("x", "1")), "two"))
        self.assertEqual(arrays.read(("a", ("x", "1"))), "two")
        self.assertEqual(arrays.count(), 1)
        self.assertEqual(arrays.read(("a", ("x",))), "")
        self.assertEqual(arrays.read(("a", ("x", "2"))), "")
        self.assertEqual(arrays.read(("a", ("x", "01"))), "")
        self.assertEqual(arrays.read(("b", ("x", "1"))), "")

    def test_otherwise_of_any_kind(self):
        arrays = Arrays()
        arrays.put(("a", ("x",)), "")
        arrays.put(("a", ("x", "y", "z")), "w")
        for other in ("", "other", "%", None, 7, True, ["a"], ("a",), {"a": 1}, b"a"):
            with self.subTest(repr(other)):
                self.assertEqual(arrays.read(("a", ()), otherwise=other), other)
                self.assertEqual(arrays.read(("a", ("x", "y")), otherwise=other), other)
                self.assertEqual(arrays.read(("b", ("x",)), otherwise=other), other)
                self.assertEqual(arrays.read(("a", ("x",)), otherwise=other), "")
                self.assertEqual(arrays.read(("a", ("x", "y", "z")), otherwise=other), "w")
        self.assertIsNone(arrays.read(("a", ()), otherwise=None))

    def test_data(self):
        arrays = filled([("x",), ("x", "y", "z"), ("10",), ("q", "r")])
        told = {
            (): 10, ("x",): 11, ("x", "y"): 10, ("x", "y", "z"): 1, ("10",): 1, ("1",): 0, ("q",): 10, ("q", "r"): 1,
            ("x", "z"): 0, ("x", "y", "z", "0"): 0, ("xx",): 0,
        }
        for keys, data in told.items():
            with self.subTest(keys):
                self.assertEqual(arrays.data(("a", keys)), data)
        self.assertEqual(arrays.data(("b", ())), 0)
        arrays.put(("a", ()), "")
        self.assertEqual(arrays.data(("a", ())), 11)
        arrays.kill(("a", ("q", "r")))
        self.assertEqual(arrays.data(("a", ("q",))), 0)
        arrays.put(("b", ()), "")
        self.assertEqual(arrays.data(("b", ())), 1)

    def test_kill_takes_all_beneath(self):
        arrays = filled([(), ("x",), ("x", "y"), ("x", "y", "z"), ("x", "yy"), ("xy",)])
        self.assertEqual(arrays.kill(("a", ("x", "y"))), 2)
        self.assertEqual([ref[1] for ref, _ in arrays.rows(("a", ()))], [(), ("x",), ("x", "yy"), ("xy",)])
        self.assertEqual(arrays.kill(("a", ("x", "y"))), 0)
        self.assertEqual(arrays.kill(("a", ("x",))), 2)
        self.assertEqual(arrays.kill(("a", ("none", "such"))), 0)
        self.assertEqual(arrays.count(), 2)
        self.assertEqual(arrays.kill(("a", ())), 2)
        self.assertEqual((arrays.count(), arrays.names()), (0, []))

    def test_kill_where_only_worths_beneath_are(self):
        arrays = filled([("x", "y", "1"), ("x", "y", "2"), ("z",)])
        arrays.put(("a", ("x", "y", "3")), "")
        self.assertEqual(arrays.kill(("a", ("x",))), 3)
        self.assertEqual(arrays.order(("a", ("",))), "z")
        self.assertEqual(arrays.data(("a", ("x",))), 0)

    def test_kill_leaves_nothing_behind(self):
        arrays = filled([("x", "y", "z")])
        arrays.kill(("a", ("x", "y", "z")))
        self.assertEqual(arrays.data(("a", ())), 0)
        self.assertEqual(arrays.order(("a", ("",))), "")
        self.assertEqual(arrays.order(("a", ("x", "",))), "")
        self.assertIsNone(arrays.following(("a", ())))
        self.assertEqual(arrays.names(), [])

    def test_kill_keeps_worths_above_and_beside(self):
        arrays = filled([("x",), ("x", "y", "z"), ("v", "y")])
        self.assertEqual(arrays.kill(("a", ("x", "y", "z"))), 1)
        self.assertEqual(arrays.read(("a", ("x",))), "w0")
        self.assertEqual(arrays.data(("a", ("x",))), 1)
        self.assertEqual(arrays.kill(("a", ("x",))), 1)
        self.assertEqual(arrays.rows(("a", ())), [(("a", ("v", "y")), "w2")])

    def test_names_are_sorted_and_count_counts_nodes(self):
        arrays = Arrays()
        for name in ("b", "abc", "a", "ab", "zz", "z"):
            arrays.put((name, ("x",)), "1")
            arrays.put((name, ("y", "z")), "")
        self.assertEqual(arrays.names(), ["a", "ab", "abc", "b", "z", "zz"])
        self.assertEqual(arrays.count(), 12)
        self.assertEqual(arrays.kill(("ab", ("x",))), 1)
        self.assertEqual(arrays.names(), ["a", "ab", "abc", "b", "z", "zz"])
        self.assertEqual(arrays.kill(("ab", ("y",))), 1)
        self.assertEqual(arrays.names(), ["a", "abc", "b", "z", "zz"])
        self.assertEqual(arrays.count(), 10)

    def test_two_arrays_know_nothing_of_each_other(self):
        one, other = Arrays(), Arrays()
        one.put(("a", ()), "1")
        self.assertEqual((other.count(), other.names(), other.read(("a", ()))), (0, [], ""))

    def test_worths_of_all_allowed_sizes(self):
        arrays = Arrays()
        deep = ("abcdefgh", ("k" * 40, "-" + "9" * 39, "0", " ", "~" * 40, "7"))
        arrays.put(deep, "w" * 200)
        self.assertEqual(arrays.read(deep), "w" * 200)
        self.assertEqual(arrays.order((deep[0], deep[1][:5] + ("",))), "7")


class TestOrder(Case):

    def test_numbers_ahead_by_their_numbers(self):
        keys = ["b", "10", "9", "-1", "-10", "0", "01", "-0", "a", "ab", "~", " "]
        arrays = filled([(key,) for key in keys])
        rising = ["-10", "-1", "0", "9", "10", " ", "-0", "01", "a", "ab", "b", "~"]
        walked = [arrays.order(("a", ("",)))]
        while walked[-1] != "":
            walked.append(arrays.order(("a", (walked[-1],))))
        self.assertEqual(walked, rising + [""])
        walked = [arrays.order(("a", ("",)), back=True)]
        while walked[-1] != "":
            walked.append(arrays.order(("a", (walked[-1],)), back=True))
        self.assertEqual(walked, rising[::-1] + [""])

    def test_behind_a_key_that_is_not_there(self):
        arrays = filled([("2",), ("10",), ("b",), ("d",)])
        told = {
            "-5": ("2", ""), "2": ("10", ""), "3": ("10", "2"), "10": ("b", "2"), "11": ("b", "10"), "02": ("b", "10"),
            "a": ("b", "10"), "b": ("d", "10"), "c": ("d", "b"), "d": ("", "b"), "e": ("", "d"), "": ("2", "d"),
        }
        for key, (behind, ahead) in told.items():
            with self.subTest(key):
                self.assertEqual(arrays.order(("a", (key,))), behind)
                self.assertEqual(arrays.order(("a", (key,)), back=False), behind)
                self.assertEqual(arrays.order(("a", (key,)), back=True), ahead)

    def test_of_a_node_that_has_only_worths_beneath_it(self):
        arrays = filled([("b", "x", "y"), ("d",)])
        self.assertEqual(arrays.order(("a", ("a",))), "b")
        self.assertEqual(arrays.order(("a", ("d",)), back=True), "b")
        self.assertEqual(arrays.order(("a", ("b", ""))), "x")
        self.assertEqual(arrays.order(("a", ("b", "")), back=True), "x")
        self.assertEqual(arrays.order(("a", ("b", "x", ""))), "y")
        self.assertEqual(arrays.order(("a", ("b", "x", "y", ""))), "")
        self.assertEqual(arrays.order(("a", ("d", "")), back=True), "")

    def test_behind_the_same_head_alone(self):
        arrays = filled([("a", "1"), ("a", "3"), ("b", "2"), ("b", "4")])
        arrays.put(("b", ("a", "2")), "w")
        self.assertEqual(arrays.order(("a", ("a", "1"))), "3")
        self.assertEqual(arrays.order(("a", ("a", "3"))), "")
        self.assertEqual(arrays.order(("a", ("b", "2")), back=True), "")
        self.assertEqual(arrays.order(("a", ("none", ""))), "")
        self.assertEqual(arrays.order(("a", ("none", "1")), back=True), "")
        self.assertEqual(arrays.order(("c", ("",))), "")
        self.assertEqual(arrays.order(("a", ("a", "1", "",))), "")

    def test_what_was_killed_is_passed_over(self):
        arrays = filled([("1",), ("2", "x"), ("3",)])
        arrays.kill(("a", ("2",)))
        self.assertEqual(arrays.order(("a", ("1",))), "3")
        self.assertEqual(arrays.order(("a", ("3",)), back=True), "1")
        arrays.put(("a", ("2", "y")), "")
        self.assertEqual(arrays.order(("a", ("1",))), "2")

    def test_a_full_row_of_keys(self):
        arrays = filled([("1", "2", "3", "4", "5", "6"), ("1", "2", "3", "4", "5", "7")])
        self.assertEqual(arrays.order(("a", ("1", "2", "3", "4", "5", ""))), "6")
        self.assertEqual(arrays.order(("a", ("1", "2", "3", "4", "5", "6"))), "7")
        self.assertEqual(arrays.order(("a", ("1", "2", "3", "4", "5", "")), back=True), "7")

    def test_refusals(self):
        arrays = filled([("x",)])
        for ref in NO_ASKING + [("a", ()), ("a", ("", "")), ("a", ("k",) * 6 + ("",)), ("", ("",)), ("A", ("",))]:
            with self.subTest(repr(ref)):
                self.refused(NoRef, arrays.order, ref)
                self.refused(NoRef, arrays.order, ref, back=True)


class TestWalks(Case):

    NODES = [(), ("2",), ("2", "x"), ("2", "x", "y"), ("10", "1", "1"), ("a",), ("ab",), ("b", "c")]

    def test_following_to_the_next_and_back(self):
        for nodes in (self.NODES, self.NODES[::-1]):
            arrays = filled(nodes)
            arrays.put(("aa", ("0",)), "w")
            arrays.put(("b", ()), "w")
            for one, other in zip(self.NODES, self.NODES[1:]):
                self.assertEqual(arrays.following(("a", one)), ("a", other))
                self.assertEqual(arrays.following(("a", other), back=True), ("a", one))
            self.assertIsNone(arrays.following(("a", self.NODES[-1])))
            self.assertIsNone(arrays.following(("a", self.NODES[0]), back=True))

    def test_following_of_what_is_not_there(self):
        arrays = filled(self.NODES)
        told = {
            ("-1",): (("2",), ()), ("2", "a"): (("2", "x"), ("2",)), ("2", "x", "a"): (("2", "x", "y"), ("2", "x")),
            ("2", "x", "z"): (("10", "1", "1"), ("2", "x", "y")), ("3",): (("10", "1", "1"), ("2", "x", "y")),
            ("10",): (("10", "1", "1"), ("2", "x", "y")), ("10", "1"): (("10", "1", "1"), ("2", "x", "y")),
            ("10", "2"): (("a",), ("10", "1", "1")), ("10", "1", "1", "0"): (("a",), ("10", "1", "1")),
            ("a", "z"): (("ab",), ("a",)), ("b",): (("b", "c"), ("ab",)), ("b", "b"): (("b", "c"), ("ab",)),
            ("b", "d"): (None, ("b", "c")), ("c",): (None, ("b", "c")), ("c", "1", "2"): (None, ("b", "c")),
            ("2", "a", "b", "c"): (("2", "x"), ("2",)), ("1", "z"): (("2",), ()),
        }
        for keys, (behind, ahead) in told.items():
            with self.subTest(keys):
                self.assertEqual(arrays.following(("a", keys)), None if behind is None else ("a", behind))
                self.assertEqual(arrays.following(("a", keys), back=False), arrays.following(("a", keys)))
                self.assertEqual(arrays.following(("a", keys), back=True), None if ahead is None else ("a", ahead))

    def test_following_where_the_name_itself_has_no_worth(self):
        arrays = filled([("x", "y"), ("z",)])
        self.assertEqual(arrays.following(("a", ())), ("a", ("x", "y")))
        self.assertIsNone(arrays.following(("a", ()), back=True))
        self.assertIsNone(arrays.following(("a", ("x", "y")), back=True))
        self.assertIsNone(arrays.following(("a", ("x",)), back=True))
        self.assertEqual(arrays.following(("a", ("x",))), ("a", ("x", "y")))

    def test_following_stays_with_its_name(self):
        arrays = Arrays()
        arrays.put(("a", ("x",)), "1")
        arrays.put(("c", ("x",)), "1")
        self.assertIsNone(arrays.following(("b", ())))
        self.assertIsNone(arrays.following(("b", ("z",)), back=True))
        self.assertIsNone(arrays.following(("a", ("x",))))
        self.assertIsNone(arrays.following(("c", ("x",)), back=True))

    def test_nodes_with_the_empty_worth_are_walked(self):
        arrays = Arrays()
        for keys in ((), ("1",), ("1", "2"), ("3",)):
            arrays.put(("a", keys), "")
        self.assertEqual(arrays.following(("a", ())), ("a", ("1",)))
        self.assertEqual(arrays.following(("a", ("3",)), back=True), ("a", ("1", "2")))
        self.assertEqual([ref[1] for ref, _ in arrays.rows(("a", ()))], [(), ("1",), ("1", "2"), ("3",)])

    def test_rows(self):
        arrays = filled(self.NODES)
        arrays.put(("aa", ()), "other")
        rows = [(("a", keys), f"w{number}") for number, keys in enumerate(self.NODES)]
        self.assertEqual(arrays.rows(("a", ())), rows)
        self.assertEqual(arrays.rows(("a", ("2",))), rows[1:4])
        self.assertEqual(arrays.rows(("a", ("2", "x"))), rows[2:4])
        self.assertEqual(arrays.rows(("a", ("10",))), rows[4:5])
        self.assertEqual(arrays.rows(("a", ("a",))), rows[5:6])
        self.assertEqual(arrays.rows(("a", ("b", "c"))), rows[7:])
        for keys in (("1",), ("2", "x", "y", "z"), ("c",), ("none", "such")):
            self.assertEqual(arrays.rows(("a", keys)), [])
        self.assertEqual(arrays.rows(("b", ())), [])

    def test_rows_are_tuples_of_a_reference_and_a_worth(self):
        ref, worth = filled([("x", "y")]).rows(("a", ()))[0]
        self.assertIs(type(ref), tuple)
        self.assertIs(type(ref[1]), tuple)
        self.assertEqual((ref, worth), (("a", ("x", "y")), "w0"))
        self.assertIs(type(filled([("x", "y")]).rows(("a", ()))[0]), tuple)
        self.assertIs(type(filled([("x", "y")]).following(("a", ()))), tuple)


class TestMerge(Case):

    def test_worths_go_to_the_keys_beyond(self):
        arrays = filled([("x",), ("x", "1"), ("x", "2", "3"), ("y",)])
        self.assertEqual(arrays.merge(("b", ("p", "q")), ("a", ("x",))), 3)
        self.assertEqual(arrays.rows(("b", ())), [
            (("b", ("p", "q")), "w0"), (("b", ("p", "q", "1")), "w1"), (("b", ("p", "q", "2", "3")), "w2"),
        ])
        self.assertEqual(arrays.count(), 7)
        self.assertEqual(arrays.read(("a", ("x", "2", "3"))), "w2")

    def test_within_one_name(self):
        arrays = filled([("x",), ("x", "1"), ("y", "9")])
        self.assertEqual(arrays.merge(("a", ("y",)), ("a", ("x",))), 2)
        self.assertEqual([ref[1] for ref, _ in arrays.rows(("a", ("y",)))], [("y",), ("y", "1"), ("y", "9")])
        self.assertEqual(arrays.read(("a", ("y", "9"))), "w2")
        self.assertEqual(arrays.merge(("b", ()), ("a", ())), 5)
        self.assertEqual(arrays.names(), ["a", "b"])

    def test_onto_nodes_that_have_worths(self):
        arrays = filled([("x", "1"), ("x", "2")])
        for keys in ((), ("1",), ("1", "5"), ("3",)):
            arrays.put(("b", keys), "old")
        self.assertEqual(arrays.merge(("b", ()), ("a", ("x",))), 2)
        self.assertEqual(arrays.rows(("b", ())), [
            (("b", ()), "old"), (("b", ("1",)), "w0"), (("b", ("1", "5")), "old"), (("b", ("2",)), "w1"),
            (("b", ("3",)), "old"),
        ])

    def test_the_empty_worth_goes_too(self):
        arrays = Arrays()
        arrays.put(("a", ("x",)), "")
        arrays.put(("b", ("x",)), "old")
        self.assertEqual(arrays.merge(("b", ()), ("a", ())), 1)
        self.assertEqual(arrays.read(("b", ("x",)), otherwise="none"), "")

    def test_of_what_is_not_there(self):
        arrays = filled([("x",)])
        told = state(arrays)
        self.assertEqual(arrays.merge(("b", ()), ("c", ())), 0)
        self.assertEqual(arrays.merge(("a", ("x",)), ("a", ("y",))), 0)
        self.assertEqual(arrays.merge(("a", ("1", "2", "3", "4", "5", "6")), ("c", ("1",))), 0)
        self.assertEqual(state(arrays), told)

    def test_to_what_is_not_there(self):
        arrays = filled([("x",)])
        self.assertEqual(arrays.merge(("b", ("1", "2", "3", "4", "5", "6")), ("a", ("x",))), 1)
        self.assertEqual(arrays.read(("b", ("1", "2", "3", "4", "5", "6"))), "w0")

    def test_up_to_six_keys(self):
        arrays = filled([("x", "1", "2", "3")])
        self.assertEqual(arrays.merge(("b", ("p", "q", "r")), ("a", ("x",))), 1)
        self.assertEqual(arrays.read(("b", ("p", "q", "r", "1", "2", "3"))), "w0")
        self.refused(TooDeep, arrays.merge, ("b", ("p", "q", "r", "s")), ("a", ("x",)))
        self.refused(TooDeep, arrays.merge, ("b", ("p", "q", "r")), ("a", ()))

    def test_too_deep_changes_nothing(self):
        arrays = filled([("x",), ("x", "1"), ("x", "1", "2")])
        told = state(arrays)
        self.refused(TooDeep, arrays.merge, ("b", ("1", "2", "3", "4", "5")), ("a", ("x",)))
        self.assertEqual((state(arrays), arrays.count()), (told, 3))

    def test_within_where_they_meet(self):
        arrays = filled([(), ("x",), ("x", "1", "2", "3", "4", "5")])
        told = state(arrays)
        for to, source in (
            ((), ()), (("x",), ()), ((), ("x",)), (("x",), ("x",)), (("x", "1"), ("x",)), (("x",), ("x", "1")),
            (("none",), ()), (("none",), ("none",)),
        ):
            with self.subTest(to=to, source=source):
                self.refused(Within, arrays.merge, ("a", to), ("a", source))
        self.assertEqual(state(arrays), told)

    def test_within_ahead_of_too_deep(self):
        arrays = filled([("x", "1", "2", "3", "4", "5")])
        self.refused(Within, arrays.merge, ("a", ("x", "1")), ("a", ("x",)))
        self.refused(TooDeep, arrays.merge, ("a", ("y", "1")), ("a", ("x",)))

    def test_no_reference_ahead_of_all(self):
        arrays = filled([("x",)])
        for ref in NO_REFERENCES:
            with self.subTest(repr(ref)):
                self.refused(NoRef, arrays.merge, ref, ("a", ("x",)))
                self.refused(NoRef, arrays.merge, ("a", ("x",)), ref)
                self.refused(NoRef, arrays.merge, ref, ref)
        self.assertEqual(state(arrays), [[(("a", ("x",)), "w0")]])


class TestRefusals(Case):

    def test_no_reference(self):
        arrays = filled([("k",)])
        for ref in NO_REFERENCES:
            with self.subTest(repr(ref)):
                for ask in (arrays.read, arrays.data, arrays.kill, arrays.following, arrays.rows):
                    self.refused(NoRef, ask, ref)
                self.refused(NoRef, arrays.put, ref, "w")
                self.refused(NoRef, arrays.read, ref, otherwise="w")
                self.refused(NoRef, arrays.following, ref, back=True)
        self.assertEqual(state(arrays), [[(("a", ("k",)), "w0")]])

    def test_no_worth(self):
        arrays = filled([("k",)])
        for worth in NO_WORTHS:
            with self.subTest(repr(worth)):
                self.refused(NoWorth, arrays.put, ("a", ("k",)), worth)
                self.refused(NoWorth, arrays.put, ("b", ("k", "l")), worth)
        self.assertEqual(state(arrays), [[(("a", ("k",)), "w0")]])
        self.assertEqual((arrays.data(("b", ())), arrays.order(("b", ("",)))), (0, ""))

    def test_no_reference_ahead_of_no_worth(self):
        for ref, worth in itertools.product(NO_REFERENCES[:8], NO_WORTHS[:8]):
            self.refused(NoRef, Arrays().put, ref, worth)


class TestHandedInAndTold(Case):

    def test_arguments_by_their_names(self):
        arrays = Arrays()
        self.assertIsNone(arrays.put(worth="w", ref=("a", ("x",))))
        self.assertEqual(arrays.read(otherwise="o", ref=("a", ("x",))), "w")
        self.assertEqual(arrays.data(ref=("a", ())), 10)
        self.assertEqual(arrays.order(back=True, ref=("a", ("",))), "x")
        self.assertEqual(arrays.following(back=True, ref=("a", ("y",))), ("a", ("x",)))
        self.assertEqual(arrays.rows(ref=("a", ())), [(("a", ("x",)), "w")])
        self.assertEqual(arrays.merge(source=("a", ()), to=("b", ("y",))), 1)
        self.assertEqual(arrays.kill(ref=("b", ("y", "x"))), 1)
        self.assertEqual(arrays.names(), ["a"])

    def test_lists_that_are_told_are_new(self):
        arrays = filled([("x",), ("x", "y")])
        arrays.put(("b", ()), "w")
        for ask in (arrays.names, lambda: arrays.rows(("a", ())), lambda: arrays.rows(("c", ()))):
            told = ask()
            kept = list(told)
            self.assertIsInstance(told, list)
            self.assertIsNot(ask(), told)
            told.append(("c", ()))
            told.reverse()
            self.assertEqual(ask(), kept)
            told.clear()
            self.assertEqual(ask(), kept)

    def test_lists_that_were_told_stay_as_they_were(self):
        arrays = filled([("x",), ("x", "y")])
        names, rows = arrays.names(), arrays.rows(("a", ()))
        arrays.put(("b", ()), "w")
        arrays.put(("a", ("x",)), "new")
        arrays.kill(("a", ("x", "y")))
        self.assertEqual((names, rows), (["a"], [(("a", ("x",)), "w0"), (("a", ("x", "y")), "w1")]))


class TestAsTheDocumentSays(Case):
    """Arrays against a plain model, over many mixed deeds."""

    KEYS = ["1", "2", "10", "-1", "01", "-", "a", "ab", "b", " "]

    def reference(self, dice, least=0):
        keys = tuple(dice.choice(self.KEYS) for _ in range(dice.randint(least, 4)))
        return (dice.choice(["a", "ab", "b"]), keys)

    def ask_all(self, arrays, plain, dice):
        ref = self.reference(dice)
        self.assertEqual(arrays.read(ref, otherwise="none"), plain.read(ref, otherwise="none"))
        self.assertEqual(arrays.data(ref), plain.data(ref))
        self.assertEqual(arrays.rows(ref), plain.rows(ref))
        self.assertEqual(arrays.names(), plain.names())
        self.assertEqual(arrays.count(), plain.count())
        asking = self.reference(dice, 1)
        if dice.random() < 0.3:
            asking = (asking[0], asking[1][:-1] + ("",))
        for back in (False, True):
            self.assertEqual(arrays.following(ref, back=back), plain.following(ref, back=back))
            self.assertEqual(arrays.order(asking, back=back), plain.order(asking, back=back))

    def test_mixed_deeds(self):
        for seed in range(12):
            dice = random.Random(seed)
            arrays, plain = Arrays(), PlainArrays()
            for _ in range(250):
                ref = self.reference(dice)
                if dice.random() < 0.75:
                    worth = dice.choice(["", "w", "7"])
                    arrays.put(ref, worth)
                    plain.put(ref, worth)
                else:
                    self.assertEqual(arrays.kill(ref), plain.kill(ref))
                self.ask_all(arrays, plain, dice)

    def test_four_hundred_nodes(self):
        dice = random.Random(8)
        keys = [str(dice.randint(-10 ** 39, 10 ** 39)) for _ in range(200)]
        keys = keys + ["".join(dice.choice("ab 01-") for _ in range(40)) for _ in range(200)]
        arrays = filled([(key,) for key in keys])
        rising = sorted(set(keys), key=by_key)
        self.assertEqual([ref[1][0] for ref, _ in arrays.rows(("a", ()))], rising)
        walked = [""]
        for _ in rising:
            walked.append(arrays.order(("a", (walked[-1],))))
        self.assertEqual(walked[1:], rising)
        self.assertEqual(arrays.order(("a", (walked[-1],))), "")

    def test_walking_comes_to_each_node_once_in_order(self):
        dice = random.Random(4)
        for _ in range(20):
            nodes = {self.reference(dice)[1] for _ in range(60)}
            arrays = filled(sorted(nodes))
            rising = [("a", keys) for keys in sorted(nodes, key=by_row)]
            start = ("a", ())
            walked = [start] if arrays.data(start) in (1, 11) else []
            ref = arrays.following(start)
            while ref is not None:
                walked.append(ref)
                self.assertEqual(arrays.following(ref, back=True), walked[-2] if len(walked) > 1 else None)
                ref = arrays.following(ref)
            self.assertEqual(walked, rising)
