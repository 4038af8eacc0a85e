"""[18] and [19]: dealings."""

import random

from stemkeep.arrays import Arrays
from stemkeep.dealings import Dealings
from stemkeep.errors import Held, NoDealing, NoJob, NoRef, NoWorth
from tests.support import Case, PlainDealings
from tests.test_arrays import NO_ASKING, NO_REFERENCES, NO_WORTHS, state
from tests.test_locks import A, AX, AXY, AY, B, BX, NO_JOBS


def dealings_of(*nodes):
    """Tell arrays with a worth at each of such references, and dealings of them."""
    arrays = Arrays()
    for number, ref in enumerate(nodes):
        arrays.put(ref, f"w{number}")
    return arrays, Dealings(arrays)


def walks(arrays):
    """Tell all that arrays tell of a few names: what is there, and what comes next to what."""
    told = [arrays.names(), arrays.count(), state(arrays)]
    keys = ["", "1", "2", "x", "y", "z"]
    for name in ("a", "b"):
        refs = [(name, ())] + [(name, (key,)) for key in keys[1:]] + [(name, (key, "y")) for key in keys[1:]]
        for back in (False, True):
            told.append([arrays.following(ref, back=back) for ref in refs])
            told.append([arrays.order((name, (key,)), back=back) for key in keys])
            told.append([arrays.order((name, (one, key)), back=back) for one in keys[1:] for key in keys])
        told.append([arrays.data(ref) for ref in refs])
    return told


class TestChanges(Case):

    def test_do_as_arrays_do_at_level_0(self):
        arrays, dealings = dealings_of(AX)
        self.assertIsNone(dealings.put(1, AXY, "v"))
        self.assertEqual(arrays.rows(A), [(AX, "w0"), (AXY, "v")])
        self.assertEqual(dealings.read(1, AXY), "v")
        self.assertEqual(dealings.read(2, AXY), "v")
        self.assertEqual(dealings.read(1, AY), "")
        self.assertIsNone(dealings.read(1, AY, otherwise=None))
        self.assertEqual(dealings.read(1, AY, otherwise="o"), "o")
        self.assertEqual([dealings.data(1, ref) for ref in (A, AX, AXY, AY)], [10, 11, 1, 0])
        dealings.put(1, AY, "")
        self.assertEqual(dealings.order(1, ("a", ("",))), "x")
        self.assertEqual(dealings.order(1, ("a", ("",)), back=True), "y")
        self.assertEqual(dealings.order(2, AX), "y")
        self.assertEqual(dealings.order(2, AY), "")
        self.assertEqual(dealings.order(2, AY, back=True), "x")
        self.assertEqual(dealings.kill(1, AX), 2)
        self.assertEqual(dealings.kill(1, AX), 0)
        self.assertEqual(arrays.rows(A), [(AY, "")])
        self.assertEqual((dealings.touched(1), dealings.level(1)), ([], 0))

    def test_do_as_arrays_do_within_a_dealing(self):
        arrays, dealings = dealings_of(AX, AXY)
        dealings.start(1)
        self.assertIsNone(dealings.put(1, AY, "v"))
        self.assertEqual(dealings.read(1, AY), "v")
        self.assertEqual(dealings.data(1, A), 10)
        self.assertEqual(dealings.order(1, AX), "y")
        self.assertEqual(dealings.kill(1, AX), 2)
        self.assertEqual(dealings.kill(1, BX), 0)
        self.assertEqual(arrays.rows(A), [(AY, "v")])

    def test_level(self):
        _, dealings = dealings_of()
        self.assertEqual(dealings.level(3), 0)
        self.assertIsNone(dealings.start(3))
        self.assertIsNone(dealings.start(3))
        dealings.start(0)
        self.assertEqual([dealings.level(job) for job in (0, 1, 3)], [1, 0, 2])
        self.assertIsNone(dealings.keep(3))
        self.assertEqual(dealings.level(3), 1)
        self.assertIsNone(dealings.undo(3))
        self.assertEqual([dealings.level(job) for job in (0, 1, 3)], [1, 0, 0])

    def test_keep_lets_it_stay(self):
        arrays, dealings = dealings_of(AX, AXY)
        dealings.start(1)
        dealings.put(1, AY, "v")
        dealings.kill(1, AX)
        dealings.keep(1)
        self.assertEqual(arrays.rows(A), [(AY, "v")])
        self.assertEqual((dealings.touched(1), dealings.level(1)), ([], 0))
        dealings.start(1)
        dealings.undo(1)
        dealings.end(1)
        self.assertEqual(arrays.rows(A), [(AY, "v")])

    def test_undo_leaves_what_was_done_ahead(self):
        arrays, dealings = dealings_of(AX)
        dealings.put(1, AX, "ahead")
        dealings.start(1)
        dealings.put(1, AX, "within")
        dealings.undo(1)
        self.assertEqual(arrays.rows(A), [(AX, "ahead")])


class TestUndo(Case):

    def undone(self, nodes, *changes):
        """Do changes in a dealing and undo it; all must be as it was."""
        arrays, dealings = dealings_of(*nodes)
        told = walks(arrays)
        dealings.start(1)
        for word, *more in changes:
            getattr(dealings, word)(1, *more)
        dealings.undo(1)
        self.assertEqual(walks(arrays), told)
        return arrays

    def test_a_put_onto_what_was_there(self):
        self.undone([AX, AXY], ("put", AX, "new"))
        self.undone([AX, AXY], ("put", AX, "new"), ("put", AX, "newer"))

    def test_a_put_onto_what_was_not_there(self):
        self.undone([], ("put", A, "new"))
        self.undone([], ("put", ("a", ("x", "y", "z", "1", "2", "3")), "new"))
        self.undone([AX], ("put", AXY, "new"))
        self.undone([AX, BX], ("put", ("a", ("x", "y", "z")), "new"), ("put", ("c", ("1",)), "new"))

    def test_a_put_above_what_was_there(self):
        self.undone([AXY], ("put", AX, "new"))
        self.undone([AXY], ("put", AX, "new"), ("put", A, "new"))
        arrays = self.undone([("a", ("x", "y", "z")), AY], ("put", AX, "new"))
        self.assertEqual(arrays.data(AX), 10)

    def test_a_put_of_an_empty_worth(self):
        self.undone([AX], ("put", AX, ""))
        self.undone([AXY], ("put", AX, ""))
        self.undone([], ("put", AX, ""))
        arrays, dealings = dealings_of()
        arrays.put(AX, "")
        dealings.start(1)
        dealings.put(1, AX, "v")
        dealings.kill(1, AX)
        dealings.undo(1)
        self.assertEqual((arrays.rows(A), arrays.count()), ([(AX, "")], 1))

    def test_a_kill_of_many(self):
        nodes = [A, AX, AXY, ("a", ("x", "y", "z")), AY, ("a", ("y", "1", "2")), ("a", ("-7",)), B]
        self.undone(nodes, ("kill", A))
        self.undone(nodes, ("kill", AX))
        self.undone(nodes, ("kill", AXY), ("kill", AX), ("kill", A))
        self.undone(nodes[1:], ("kill", A))
        self.undone([("a", ("x", "y", "z"))], ("kill", AX))

    def test_a_kill_of_nothing(self):
        self.undone([AX], ("kill", AXY))
        self.undone([AX], ("kill", BX))

    def test_changes_upon_changes(self):
        self.undone([AX, AXY], ("kill", A), ("put", AXY, "new"), ("put", AX, "new"), ("kill", AX), ("put", A, "new"))
        self.undone([AX], ("put", AXY, "1"), ("kill", AX), ("put", AXY, "2"), ("put", AX, "3"), ("kill", AXY))
        self.undone([], ("put", AXY, "1"), ("put", AX, "2"), ("put", A, "3"), ("kill", AX), ("put", AX, "4"))

    def test_four_hundred_nodes(self):
        nodes = [("a", (str(number), "x")) for number in range(200)] + [("a", (str(number),)) for number in range(200)]
        self.undone(nodes, ("kill", A), *[("put", ref, "new") for ref in nodes[::3]], ("kill", A))


class TestWithin(Case):

    def test_undone_within_kept(self):
        arrays, dealings = dealings_of(AX)
        dealings.start(1)
        dealings.put(1, AX, "outer")
        dealings.start(1)
        dealings.put(1, AX, "inner")
        dealings.kill(1, A)
        dealings.undo(1)
        self.assertEqual(arrays.rows(A), [(AX, "outer")])
        dealings.keep(1)
        self.assertEqual(arrays.rows(A), [(AX, "outer")])

    def test_kept_within_undone(self):
        arrays, dealings = dealings_of(AX, AXY)
        dealings.start(1)
        dealings.start(1)
        dealings.put(1, AX, "inner")
        dealings.kill(1, AXY)
        dealings.keep(1)
        self.assertEqual((arrays.rows(A), dealings.level(1)), ([(AX, "inner")], 1))
        dealings.undo(1)
        self.assertEqual((arrays.rows(A), dealings.level(1)), ([(AX, "w0"), (AXY, "w1")], 0))

    def test_what_a_kept_one_did_is_the_one_s_around_it(self):
        arrays, dealings = dealings_of(AX)
        dealings.start(1)
        dealings.put(1, AX, "1")
        dealings.start(1)
        dealings.put(1, AX, "2")
        dealings.start(1)
        dealings.put(1, AX, "3")
        dealings.keep(1)
        dealings.undo(1)
        self.assertEqual(arrays.read(AX), "1")
        dealings.start(1)
        dealings.put(1, AX, "4")
        dealings.keep(1)
        self.assertEqual(arrays.read(AX), "4")
        dealings.undo(1)
        self.assertEqual(arrays.read(AX), "w0")

    def test_one_behind_another(self):
        arrays, dealings = dealings_of(AX)
        dealings.start(1)
        dealings.start(1)
        dealings.put(1, AX, "1")
        dealings.keep(1)
        dealings.start(1)
        dealings.put(1, AX, "2")
        dealings.undo(1)
        self.assertEqual(arrays.read(AX), "1")
        dealings.undo(1)
        self.assertEqual(arrays.read(AX), "w0")

    def test_end(self):
        arrays, dealings = dealings_of(AX, AXY)
        self.assertIsNone(dealings.end(1))
        for _ in range(3):
            dealings.start(1)
            dealings.put(1, AX, "in")
            dealings.put(1, BX, "in")
        dealings.kill(1, A)
        dealings.start(1)
        dealings.keep(1)
        dealings.start(2)
        dealings.put(2, ("c", ()), "other")
        self.assertIsNone(dealings.end(1))
        self.assertEqual(state(arrays), [[(AX, "w0"), (AXY, "w1")], [(("c", ()), "other")]])
        self.assertEqual((dealings.level(1), dealings.touched(1)), (0, []))
        self.assertEqual((dealings.level(2), dealings.touched(2)), (1, [("c", ())]))

    def test_of_two_jobs_beside(self):
        arrays, dealings = dealings_of(AX, AY)
        dealings.start(1)
        dealings.put(1, AX, "1")
        dealings.start(2)
        dealings.put(2, AY, "2")
        dealings.put(1, AXY, "1")
        dealings.put(3, BX, "3")
        dealings.put(2, B, "2")
        dealings.undo(1)
        self.assertEqual(state(arrays), [[(AX, "w0"), (AY, "2")], [(B, "2"), (BX, "3")]])
        dealings.keep(2)
        self.assertEqual(state(arrays), [[(AX, "w0"), (AY, "2")], [(B, "2"), (BX, "3")]])

    def test_many_within_one_another(self):
        arrays, dealings = dealings_of(AX)
        for number in range(1000):
            dealings.start(1)
            dealings.put(1, AX, str(number))
        self.assertEqual(dealings.level(1), 1000)
        for number in range(999, 500, -1):
            self.assertEqual(arrays.read(AX), str(number))
            dealings.undo(1)
        for _ in range(500):
            dealings.keep(1)
        self.assertEqual((arrays.read(AX), dealings.level(1)), ("500", 1))
        dealings.undo(1)
        self.assertEqual(arrays.read(AX), "w0")


class TestTouched(Case):

    def test_in_the_order_in_which_they_were_first_touched(self):
        _, dealings = dealings_of(AX)
        self.assertEqual(dealings.touched(1), [])
        dealings.start(1)
        self.assertEqual(dealings.touched(1), [])
        dealings.put(1, BX, "1")
        dealings.kill(1, AX)
        dealings.put(1, BX, "2")
        dealings.kill(1, A)
        dealings.put(1, AX, "3")
        dealings.put(1, A, "3")
        self.assertEqual(dealings.touched(1), [BX, AX, A])
        self.assertEqual(dealings.touched(2), [])

    def test_also_of_what_was_undone(self):
        _, dealings = dealings_of()
        dealings.start(1)
        dealings.put(1, AY, "1")
        dealings.start(1)
        dealings.put(1, AX, "1")
        dealings.undo(1)
        self.assertEqual(dealings.touched(1), [AY, AX])
        self.refused(Held, dealings.read, 2, AX)
        dealings.start(1)
        dealings.kill(1, B)
        dealings.keep(1)
        dealings.put(1, AX, "2")
        self.assertEqual(dealings.touched(1), [AY, AX, B])

    def test_none_at_level_0_again(self):
        for ending in ("keep", "undo", "end"):
            _, dealings = dealings_of()
            dealings.start(1)
            dealings.put(1, AX, "1")
            getattr(dealings, ending)(1)
            self.assertEqual(dealings.touched(1), [])
            self.assertIn(dealings.read(2, AX), ["1", ""])
            dealings.put(2, AX, "2")
            dealings.start(1)
            self.assertEqual(dealings.touched(1), [])
            dealings.put(1, AY, "1")
            self.assertEqual(dealings.touched(1), [AY])

    def test_reading_and_changes_at_level_0_touch_nothing(self):
        _, dealings = dealings_of(AX)
        dealings.put(1, AX, "1")
        dealings.kill(1, AX)
        dealings.start(1)
        dealings.read(1, AX)
        dealings.data(1, A)
        dealings.order(1, AX)
        self.assertEqual(dealings.touched(1), [])
        self.assertEqual(dealings.read(2, AX), "")

    def test_what_changes_nothing_touches_too(self):
        _, dealings = dealings_of(AX)
        dealings.start(1)
        dealings.kill(1, BX)
        dealings.put(1, AX, "w0")
        self.assertEqual(dealings.touched(1), [BX, AX])


class TestHeld(Case):

    def held(self, job, ref, call, *args, **more):
        error = self.refused(Held, call, *args, **more)
        self.assertEqual((error.job, error.ref), (job, ref))

    def test_what_meets_is_held(self):
        arrays, dealings = dealings_of(AX, AXY)
        dealings.start(2)
        dealings.put(2, AX, "in")
        told = state(arrays)
        for job in (0, 1, 3):
            for level in (0, 1):
                for ref in (A, AX, AXY, ("a", ("x", "none", "1"))):
                    self.held(2, AX, dealings.put, job, ref, "w")
                    self.held(2, AX, dealings.kill, job, ref)
                    self.held(2, AX, dealings.read, job, ref)
                    self.held(2, AX, dealings.read, job, ref, otherwise=None)
                    self.held(2, AX, dealings.data, job, ref)
                for ref in (AY, B, BX, ("ab", ("x",)), ("a", ("xx",))):
                    self.assertEqual(dealings.read(job, ref), "")
                    self.assertEqual(dealings.data(job, ref), 0)
                    self.assertEqual(dealings.kill(job, ref), 0)
                self.assertNotIn(AX, dealings.touched(job))
                if level == 0:
                    dealings.start(job)
            dealings.end(job)
        self.assertEqual(state(arrays), told)
        self.assertEqual(dealings.read(2, AX), "in")
        self.assertEqual(dealings.order(2, ("a", ("",))), "x")

    def test_order_is_held_by_its_head(self):
        _, dealings = dealings_of(AX, AXY, BX)
        dealings.start(2)
        dealings.put(2, AX, "in")
        for ref in (AX, AY, ("a", ("",)), ("a", ("x", "")), AXY, ("a", ("x", "y", ""))):
            self.held(2, AX, dealings.order, 1, ref)
            self.held(2, AX, dealings.order, 1, ref, back=True)
        self.assertEqual(dealings.order(1, ("a", ("y", ""))), "")
        self.assertEqual(dealings.order(1, ("b", ("",))), "x")
        dealings.undo(2)
        dealings.start(2)
        dealings.put(2, AXY, "in")
        self.held(2, AXY, dealings.order, 1, AY)
        self.held(2, AXY, dealings.order, 1, ("a", ("x", "z")))
        self.assertEqual(dealings.order(1, ("a", ("y", "1"))), "")
        self.assertEqual(dealings.order(2, AXY), "")

    def test_the_least_job_and_its_first_reference(self):
        _, dealings = dealings_of()
        for job in (7, 3, 5):
            dealings.start(job)
            for key in ("z", "y", "x"):
                dealings.put(job, ("a", (str(job), key)), "w")
            dealings.put(job, ("b", (str(job),)), "w")
        self.held(3, ("a", ("3", "z")), dealings.read, 1, A)
        self.held(5, ("a", ("5", "z")), dealings.kill, 3, A)
        self.held(3, ("a", ("3", "z")), dealings.data, 5, A)
        self.held(3, ("a", ("3", "x")), dealings.data, 1, ("a", ("3", "x")))
        self.held(7, ("a", ("7", "y")), dealings.put, 1, ("a", ("7", "y", "1")), "w")
        self.held(3, ("b", ("3",)), dealings.order, 1, ("b", ("",)))
        self.held(5, ("b", ("5",)), dealings.order, 3, ("b", ("9",)))
        dealings.put(3, ("a", ("3",)), "w")
        self.held(3, ("a", ("3", "y")), dealings.read, 1, ("a", ("3", "y")))
        self.held(3, ("a", ("3",)), dealings.read, 1, ("a", ("3", "new")))
        dealings.end(3)
        self.held(5, ("a", ("5", "z")), dealings.read, 1, A)

    def test_the_first_of_its_references_that_meets(self):
        _, dealings = dealings_of()
        dealings.start(4)
        for ref in (BX, ("a", ("x", "y", "z")), A, AX):
            dealings.put(4, ref, "w")
        self.held(4, ("a", ("x", "y", "z")), dealings.read, 1, AX)
        self.held(4, ("a", ("x", "y", "z")), dealings.read, 1, A)
        self.held(4, A, dealings.read, 1, AY)
        self.held(4, ("a", ("x", "y", "z")), dealings.read, 1, ("a", ("x", "y", "z", "1")))
        self.held(4, A, dealings.read, 1, ("a", ("x", "z")))

    def test_held_until_level_0_again(self):
        _, dealings = dealings_of()
        dealings.start(1)
        dealings.start(1)
        dealings.put(1, AX, "1")
        dealings.keep(1)
        self.held(1, AX, dealings.put, 2, AX, "2")
        dealings.keep(1)
        dealings.put(2, AX, "2")
        self.assertEqual(dealings.read(1, AX), "2")

    def test_what_is_refused_is_not_touched(self):
        arrays, dealings = dealings_of(AX)
        dealings.start(1)
        dealings.kill(1, A)
        dealings.start(2)
        told = state(arrays)
        self.held(1, A, dealings.put, 2, AX, "2")
        self.held(1, A, dealings.kill, 2, AX)
        self.refused(NoWorth, dealings.put, 2, BX, None)
        self.refused(NoRef, dealings.kill, 2, None)
        self.assertEqual((dealings.touched(2), dealings.level(2), state(arrays)), ([], 1, told))
        dealings.undo(1)
        self.assertEqual(dealings.read(1, AX), "w0")
        dealings.undo(2)
        self.assertEqual(arrays.rows(A), [(AX, "w0")])


class TestRefusals(Case):

    def test_no_job(self):
        arrays, dealings = dealings_of(AX)
        dealings.start(0)
        dealings.put(0, BX, "w")
        told = state(arrays)
        for job in NO_JOBS:
            with self.subTest(repr(job)):
                for ask in (dealings.start, dealings.level, dealings.keep, dealings.undo, dealings.end,
                            dealings.touched):
                    self.refused(NoJob, ask, job)
                for ref in (AX, BX, None):
                    for ask in (dealings.kill, dealings.read, dealings.data, dealings.order):
                        self.refused(NoJob, ask, job, ref)
                    self.refused(NoJob, dealings.put, job, ref, None)
                    self.refused(NoJob, dealings.put, job, ref, "w")
        self.assertEqual((state(arrays), dealings.level(0), dealings.touched(0)), (told, 1, [BX]))

    def test_no_reference(self):
        arrays, dealings = dealings_of(AX)
        dealings.start(1)
        dealings.kill(1, A)
        told = state(arrays)
        for ref in NO_REFERENCES:
            with self.subTest(repr(ref)):
                for job in (1, 2):
                    for ask in (dealings.kill, dealings.read, dealings.data):
                        self.refused(NoRef, ask, job, ref)
                    self.refused(NoRef, dealings.put, job, ref, "w")
                    self.refused(NoRef, dealings.put, job, ref, None)
        for ref in NO_ASKING + [A, ("a", ("", "")), ("a", ("k",) * 6 + ("",))]:
            with self.subTest(repr(ref)):
                self.refused(NoRef, dealings.order, 1, ref)
                self.refused(NoRef, dealings.order, 2, ref, back=True)
        self.assertEqual((state(arrays), dealings.touched(1)), (told, [A]))

    def test_no_worth_ahead_of_held(self):
        arrays, dealings = dealings_of(AX)
        dealings.start(1)
        dealings.kill(1, A)
        for worth in NO_WORTHS:
            for job in (1, 2):
                self.refused(NoWorth, dealings.put, job, AX, worth)
        self.refused(Held, dealings.put, 2, AX, "w")
        self.assertEqual((arrays.count(), dealings.touched(1)), (0, [A]))

    def test_no_dealing(self):
        arrays, dealings = dealings_of(AX)
        dealings.start(2)
        for job in (0, 1, 10 ** 40):
            self.refused(NoDealing, dealings.keep, job)
            self.refused(NoDealing, dealings.undo, job)
            self.assertIsNone(dealings.end(job))
        dealings.keep(2)
        self.refused(NoDealing, dealings.keep, 2)
        self.refused(NoDealing, dealings.undo, 2)
        self.assertEqual((dealings.level(2), arrays.count()), (0, 1))

    def test_arguments_by_their_names(self):
        arrays = Arrays()
        dealings = Dealings(arrays=arrays)
        dealings.start(job=1)
        self.assertEqual(dealings.level(job=1), 1)
        self.assertIsNone(dealings.put(worth="w", ref=AX, job=1))
        self.assertEqual(dealings.read(otherwise="o", ref=AX, job=1), "w")
        self.assertEqual(dealings.data(ref=AX, job=1), 1)
        self.assertEqual(dealings.order(back=True, ref=("a", ("",)), job=1), "x")
        self.assertEqual(dealings.touched(job=1), [AX])
        self.assertEqual(dealings.kill(ref=AX, job=1), 1)
        dealings.start(job=1)
        self.assertIsNone(dealings.keep(job=1))
        self.assertIsNone(dealings.undo(job=1))
        self.assertIsNone(dealings.end(job=1))

    def test_lists_that_are_told_are_new(self):
        _, dealings = dealings_of()
        dealings.start(1)
        dealings.put(1, AX, "w")
        for job in (1, 2):
            told = dealings.touched(job)
            kept = list(told)
            self.assertIsNot(dealings.touched(job), told)
            told.append(B)
            self.assertEqual(dealings.touched(job), kept)
        told = dealings.touched(1)
        dealings.put(1, B, "w")
        self.assertEqual(told, [AX])
        self.assertEqual(dealings.read(2, AY), "")


class TestAsTheDocumentSays(Case):
    """Dealings against a plain model, over many mixed deeds."""

    REFS = [(name, keys) for name in "ab"
            for keys in ((), ("1",), ("2",), ("1", "x"), ("1", "y"), ("2", "x"), ("1", "x", "z"))]

    def deed(self, dealings, plain, dice):
        job, ref = dice.randint(0, 3), dice.choice(self.REFS)
        turn = dice.random()
        if turn < 0.2:
            dealings.start(job)
            plain.start(job)
        elif turn < 0.38:
            word = dice.choice(["keep", "undo", "end"])
            if plain.level(job) or word == "end":
                getattr(dealings, word)(job)
                getattr(plain, word)(job)
            else:
                self.refused(NoDealing, getattr(dealings, word), job)
        else:
            word, more = dice.choice([("put", ("v",)), ("put", ("",)), ("kill", ())])
            bar = plain.bar(job, ref)
            if bar is None:
                self.assertEqual(getattr(dealings, word)(job, ref, *more), getattr(plain, word)(job, ref, *more))
            else:
                error = self.refused(Held, getattr(dealings, word), job, ref, *more)
                self.assertEqual((error.job, error.ref), bar)

    def check(self, arrays, dealings, plain):
        for name in "ab":
            self.assertEqual(arrays.rows((name, ())), plain.plain.rows((name, ())))
        self.assertEqual((arrays.names(), arrays.count()), (plain.plain.names(), plain.plain.count()))
        for job in range(4):
            self.assertEqual((dealings.level(job), dealings.touched(job)), (plain.level(job), plain.touched(job)))

    def ask(self, dealings, plain, dice):
        job, ref = dice.randint(0, 3), dice.choice(self.REFS)
        bar = plain.bar(job, ref)
        if bar is None:
            self.assertEqual(dealings.data(job, ref), plain.plain.data(ref))
            self.assertEqual(dealings.read(job, ref, otherwise="o"), plain.plain.read(ref, otherwise="o"))
        else:
            error = self.refused(Held, dealings.read, job, ref)
            self.assertEqual((error.job, error.ref), bar)
        bar = plain.bar(job, ref)
        asking = (ref[0], ref[1] + (dice.choice(["", "1", "x", "y"]),))
        for back in (False, True):
            if bar is None:
                self.assertEqual(dealings.order(job, asking, back=back), plain.plain.order(asking, back=back))
            else:
                self.refused(Held, dealings.order, job, asking, back=back)

    def test_mixed_deeds(self):
        for seed in range(60):
            dice = random.Random(seed)
            arrays = Arrays()
            dealings, plain = Dealings(arrays), PlainDealings()
            for _ in range(120):
                self.deed(dealings, plain, dice)
                self.check(arrays, dealings, plain)
                self.ask(dealings, plain, dice)

    def change(self, dealings, dice, job):
        """Do one change of a job, or begin or end a dealing within its first one."""
        ref = dice.choice(self.REFS)
        turn = dice.random()
        try:
            if turn < 0.1:
                dealings.start(job)
            elif turn < 0.2 and dealings.level(job) > 1:
                dice.choice([dealings.keep, dealings.undo])(job)
            elif turn < 0.7:
                dealings.put(job, ref, dice.choice(["", "new"]))
            else:
                dealings.kill(job, ref)
        except Held:
            pass

    def test_all_is_as_it_was_when_all_is_undone(self):
        for seed in range(60):
            dice = random.Random(seed)
            arrays, dealings = dealings_of(*dice.sample(self.REFS, 10))
            told = walks(arrays)
            for job in range(3):
                dealings.start(job)
            for _ in range(60):
                self.change(dealings, dice, dice.randint(0, 2))
            for job in dice.sample(range(3), 3):
                dealings.end(job)
            self.assertEqual(walks(arrays), told)
