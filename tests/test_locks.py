"""[15], [16] and [17]: locks on stems."""

import itertools
import random

from stemkeep.errors import NoJob, NoLock, NoRef, Waiting
from stemkeep.locks import Locks
from tests.support import Case, PlainLocks, meeting
from tests.test_arrays import NO_REFERENCES

NO_JOBS = [None, True, False, -1, -10 ** 40, "0", "", 0.0, 1.5, b"0", [], [0], (), (0,), {}, object()]

A = ("a", ())
AX = ("a", ("x",))
AXY = ("a", ("x", "y"))
AY = ("a", ("y",))
B = ("b", ())
BX = ("b", ("x",))


def locks_of(*asked):
    """Tell locks in which such (job, ref) were asked for, one behind the other."""
    locks = Locks()
    for job, ref in asked:
        locks.lock(job, ref)
    return locks


def state(locks):
    """Tell all that locks keep."""
    return (locks.holds(), locks.waits())


class TestLock(Case):

    def test_none_at_first(self):
        locks = Locks()
        self.assertEqual(state(locks), ([], []))
        self.assertIsNone(locks.ring())
        self.assertEqual(locks.free_all(0), [])

    def test_a_free_one_is_held(self):
        locks = Locks()
        self.assertIs(locks.lock(0, AX), True)
        self.assertEqual(state(locks), ([(0, AX, 1)], []))

    def test_a_held_one_once_more(self):
        locks = locks_of((1, AX), (1, AX))
        self.assertIs(locks.lock(1, AX), True)
        self.assertEqual(state(locks), ([(1, AX, 3)], []))
        self.assertIs(locks.lock(1, A), True)
        self.assertIs(locks.lock(1, AXY), True)
        self.assertEqual(locks.holds(), [(1, A, 1), (1, AX, 3), (1, AXY, 1)])

    def test_others_that_meet_wait(self):
        for ref in (A, AX, AXY):
            locks = locks_of((1, AX))
            self.assertIs(locks.lock(2, ref), False)
            self.assertEqual(state(locks), ([(1, AX, 1)], [(2, ref)]))
        for ref in (AY, B, BX, ("ab", ("x",)), ("a", ("xx",)), ("a", ("y", "x"))):
            locks = locks_of((1, AX))
            self.assertIs(locks.lock(2, ref), True)
            self.assertEqual(state(locks), (sorted([(1, AX, 1), (2, ref, 1)]), []))

    def test_those_that_meet_what_another_one_waits_for_wait_too(self):
        locks = locks_of((1, AX), (2, A))
        self.assertIs(locks.lock(3, AY), False)
        self.assertIs(locks.lock(4, B), True)
        self.assertEqual(locks.waits(), [(2, A), (3, AY)])

    def test_a_stem_that_is_held_goes_ahead_of_those_that_wait(self):
        locks = locks_of((1, A), (2, AX), (3, AXY))
        self.assertIs(locks.lock(1, AX), True)
        self.assertIs(locks.lock(1, AXY), True)
        self.assertIs(locks.lock(1, A), True)
        self.assertEqual(state(locks), ([(1, A, 2), (1, AX, 1), (1, AXY, 1)], [(2, AX), (3, AXY)]))
        locks = locks_of((1, AX), (2, A))
        self.assertIs(locks.lock(1, AX), True)
        self.assertIs(locks.lock(1, AXY), True)
        self.assertEqual(locks.holds(), [(1, AX, 2), (1, AXY, 1)])

    def test_no_stem_held_is_no_way_ahead(self):
        for ref in (A, AY):
            locks = locks_of((1, AX), (2, A))
            self.assertIs(locks.lock(1, ref), False)
            self.assertEqual(locks.waits(), [(2, A), (1, ref)])
        locks = locks_of((1, A), (3, B), (2, AX), (4, BX))
        self.assertIs(locks.lock(1, BX), False)
        locks = locks_of((1, ("b", ("x",))), (2, B))
        self.assertIs(locks.lock(3, BX), False)

    def test_a_stem_that_another_job_holds_is_no_way_ahead(self):
        locks = locks_of((1, A), (2, AX))
        self.assertIs(locks.lock(3, AX), False)
        self.assertEqual(locks.bars(3), [1, 2])

    def test_a_waiting_job_does_not_hold(self):
        locks = locks_of((1, AX), (2, AX))
        self.assertEqual(locks.holds(), [(1, AX, 1)])
        self.assertIs(locks.lock(1, AXY), True)
        self.assertIs(locks.lock(1, A), False)

    def test_great_jobs(self):
        locks = locks_of((10 ** 40, AX), (0, AX))
        self.assertEqual(state(locks), ([(10 ** 40, AX, 1)], [(0, AX)]))
        self.assertEqual(locks.bars(0), [10 ** 40])


class TestLettingGo(Case):

    def test_free_lets_go_once(self):
        locks = locks_of((1, AX), (1, AX), (2, A))
        self.assertEqual(locks.free(1, AX), [])
        self.assertEqual(state(locks), ([(1, AX, 1)], [(2, A)]))
        self.assertEqual(locks.free(1, AX), [2])
        self.assertEqual(state(locks), ([(2, A, 1)], []))

    def test_free_lets_go_of_that_one_alone(self):
        locks = locks_of((1, A), (1, AX), (1, AXY), (2, AX))
        self.assertEqual(locks.free(1, AX), [])
        self.assertEqual(locks.holds(), [(1, A, 1), (1, AXY, 1)])
        self.assertEqual(locks.free(1, A), [])
        self.assertEqual(locks.bars(2), [1])
        self.assertEqual(locks.free(1, AXY), [2])

    def test_several_are_let_on_in_the_order_in_which_they_wait(self):
        locks = locks_of((1, A), (5, AX), (3, AY), (4, ("a", ("z",))), (2, ("a", ("x", "q"))), (6, BX))
        self.assertEqual(locks.free(1, A), [5, 3, 4])
        self.assertEqual(locks.waits(), [(2, ("a", ("x", "q")))])
        self.assertEqual(locks.holds(), [(3, AY, 1), (4, ("a", ("z",)), 1), (5, AX, 1), (6, BX, 1)])
        self.assertEqual(locks.free(5, AX), [2])

    def test_those_behind_one_that_still_waits_are_barred(self):
        locks = locks_of((1, AX), (2, AY), (3, A), (4, AX), (5, B))
        self.assertEqual(locks.waits(), [(3, A), (4, AX)])
        self.assertEqual(locks.free(1, AX), [])
        self.assertEqual(locks.waits(), [(3, A), (4, AX)])
        self.assertEqual(locks.bars(4), [3])
        self.assertEqual(locks.free(2, AY), [3])
        self.assertEqual(locks.bars(4), [3])
        self.assertEqual(locks.free(3, A), [4])

    def test_one_that_was_let_on_bars_those_behind_it(self):
        locks = locks_of((1, AX), (2, AX), (3, AXY), (4, AX))
        self.assertEqual(locks.free(1, AX), [2])
        self.assertEqual(state(locks), ([(2, AX, 1)], [(3, AXY), (4, AX)]))

    def test_one_that_is_not_barred_passes_others_that_wait(self):
        locks = locks_of((1, A), (2, B), (3, BX), (4, AX))
        self.assertEqual(locks.free(1, A), [4])
        self.assertEqual(locks.waits(), [(3, BX)])

    def test_free_of_a_job_that_waits(self):
        locks = locks_of((1, AX), (2, BX), (2, A), (3, B))
        self.assertEqual(locks.free(2, BX), [3])
        self.assertEqual(state(locks), ([(1, AX, 1), (3, B, 1)], [(2, A)]))

    def test_a_job_may_be_let_on_by_its_own_letting_go(self):
        locks = locks_of((1, AX), (2, BX), (2, A), (1, B))
        self.assertEqual(locks.ring(), [1, 2])
        self.assertEqual(locks.free(1, AX), [2])
        self.assertEqual(locks.waits(), [(1, B)])
        self.assertEqual(locks.holds(), [(2, A, 1), (2, BX, 1)])

    def test_what_a_job_itself_holds_does_not_bar_it(self):
        locks = locks_of((1, AX), (2, AY), (1, A))
        self.assertEqual(locks.waits(), [(1, A)])
        self.assertEqual(locks.bars(1), [2])
        self.assertEqual(locks.free(2, AY), [1])
        self.assertEqual(locks.holds(), [(1, A, 1), (1, AX, 1)])

    def test_free_all(self):
        locks = locks_of((1, AX), (1, AX), (1, B), (2, ("c", ())), (3, A), (4, BX), (5, ("c", ())))
        self.assertEqual(locks.free_all(1), [3, 4])
        self.assertEqual(state(locks), ([(2, ("c", ()), 1), (3, A, 1), (4, BX, 1)], [(5, ("c", ()))]))
        self.assertEqual(locks.free_all(9), [])

    def test_free_all_of_a_job_that_waits(self):
        locks = locks_of((1, AX), (2, BX), (2, A), (3, AY), (4, B))
        self.assertEqual(locks.waits(), [(2, A), (3, AY), (4, B)])
        self.assertEqual(locks.free_all(2), [3, 4])
        self.assertEqual(state(locks), ([(1, AX, 1), (3, AY, 1), (4, B, 1)], []))
        self.assertIs(locks.lock(2, AXY), False)

    def test_leave(self):
        locks = locks_of((1, AX), (2, BX), (2, A), (3, AY), (4, B))
        self.assertEqual(locks.leave(2), [3])
        self.assertEqual(state(locks), ([(1, AX, 1), (2, BX, 1), (3, AY, 1)], [(4, B)]))
        self.assertEqual(locks.leave(4), [])
        self.assertEqual(locks.waits(), [])
        self.assertIs(locks.lock(2, ("c", ())), True)

    def test_one_that_asks_again_is_behind_all(self):
        locks = locks_of((1, AX), (2, AX), (3, AX))
        locks.leave(2)
        self.assertIs(locks.lock(2, AX), False)
        self.assertEqual(locks.waits(), [(3, AX), (2, AX)])
        self.assertEqual(locks.free_all(1), [3])

    def test_a_job_that_was_let_on_may_ask_again(self):
        locks = locks_of((1, AX), (2, AX))
        self.refused(Waiting, locks.lock, 2, AX)
        self.assertEqual(locks.free(1, AX), [2])
        self.assertIs(locks.lock(2, AX), True)
        self.assertEqual(locks.holds(), [(2, AX, 2)])


class TestTelling(Case):

    def test_holds_are_sorted(self):
        rows = [(), ("-2",), ("2",), ("2", "b"), ("10",), ("01",), ("a",), ("a", "1"), ("a", "1", "1"), ("ab",), ("b",)]
        refs = [("a", keys) for keys in rows] + [("ab", ("1",)), ("b", ()), ("b", ("1",))]
        for mixed in (refs, refs[::-1], random.Random(2).sample(refs, len(refs))):
            locks = locks_of(*[(3, ref) for ref in mixed], (10, ("c", ())), (2, ("d", ())), (0, ("z", ("1",))))
            told = [(0, ("z", ("1",)), 1), (2, ("d", ()), 1)] + [(3, ref, 1) for ref in refs] + [(10, ("c", ()), 1)]
            self.assertEqual(locks.holds(), told)

    def test_waits_stand_in_the_order_in_which_they_wait(self):
        locks = locks_of((1, A), (9, AX), (3, A), (5, AXY))
        self.assertEqual(locks.waits(), [(9, AX), (3, A), (5, AXY)])

    def test_bars(self):
        locks = locks_of((7, AX), (5, AY), (9, BX), (4, A), (2, AX), (3, B), (8, AY))
        self.assertEqual(locks.bars(4), [5, 7])
        self.assertEqual(locks.bars(2), [4, 7])
        self.assertEqual(locks.bars(3), [9])
        self.assertEqual(locks.bars(8), [4, 5])

    def test_bars_tells_each_job_once(self):
        locks = locks_of((1, AX), (1, AY), (1, AXY), (2, B), (1, BX), (3, A))
        self.assertEqual(locks.waits(), [(1, BX), (3, A)])
        self.assertEqual(locks.bars(3), [1])

    def test_one_that_holds_what_meets_and_waits_for_such_ahead(self):
        locks = locks_of((1, AX), (2, AY), (1, AY), (3, A))
        self.assertEqual(locks.bars(3), [1, 2])

    def test_those_that_wait_behind_bar_none(self):
        locks = locks_of((1, A), (3, AX), (2, AX))
        self.assertEqual(locks.bars(3), [1])
        self.assertEqual(locks.bars(2), [1, 3])


class TestRing(Case):

    def test_none(self):
        self.assertIsNone(locks_of((1, A), (2, AX), (3, AX), (4, B), (5, BX)).ring())
        self.assertIsNone(locks_of((1, A), (2, B), (3, AX), (2, AX)).ring())
        self.assertIsNone(locks_of((1, A), (2, B), (1, BX)).ring())

    def test_of_two(self):
        locks = locks_of((5, A), (2, B), (5, BX), (2, AX))
        self.assertEqual(locks.ring(), [2, 5])
        locks.leave(5)
        self.assertIsNone(locks.ring())

    def test_of_two_by_what_one_waits_for_ahead(self):
        locks = locks_of((1, AX), (2, A), (1, AY))
        self.assertEqual(locks.ring(), [1, 2])

    def test_of_many_with_the_least_first(self):
        for size in (3, 4, 9):
            for jobs in itertools.islice(itertools.permutations(range(size)), 0, 2000, 7):
                names = [("abcdefghi"[job], ()) for job in range(size)]
                locks = locks_of(*[(job, names[job]) for job in jobs])
                for job in jobs:
                    self.assertIsNone(locks.ring())
                    self.assertIs(locks.lock(job, names[(jobs[(jobs.index(job) + 1) % size])]), False)
                start = jobs.index(0)
                self.assertEqual(locks.ring(), list(jobs[start:] + jobs[:start]))

    def test_with_others_that_wait_beside_and_before_it(self):
        locks = locks_of((4, A), (6, B), (9, ("c", ())), (4, B), (1, ("c", ())), (6, AX), (0, A), (2, BX))
        self.assertEqual(locks.ring(), [4, 6])

    def test_of_several_rings_any(self):
        locks = locks_of(
            (1, A), (2, B), (3, ("c", ())), (4, ("d", ())), (1, BX), (2, AX), (4, ("c", ())), (3, ("d", ())),
        )
        self.assertIn(locks.ring(), [[1, 2], [3, 4]])


class TestRefusals(Case):

    def test_no_job(self):
        locks = locks_of((1, AX), (2, AX), (0, B))
        told = state(locks)
        for job in NO_JOBS:
            with self.subTest(repr(job)):
                for ask in (locks.lock, locks.free):
                    self.refused(NoJob, ask, job, AX)
                    self.refused(NoJob, ask, job, None)
                for ask in (locks.free_all, locks.leave, locks.bars):
                    self.refused(NoJob, ask, job)
        self.assertEqual(state(locks), told)

    def test_no_reference_ahead_of_waiting_and_no_lock(self):
        locks = locks_of((1, AX), (2, AX))
        told = state(locks)
        for ref in NO_REFERENCES:
            for job in (1, 2, 3):
                with self.subTest(ref=repr(ref), job=job):
                    self.refused(NoRef, locks.lock, job, ref)
                    self.refused(NoRef, locks.free, job, ref)
        self.assertEqual(state(locks), told)

    def test_waiting(self):
        locks = locks_of((1, AX), (2, B), (2, AX))
        told = state(locks)
        for ref in (AX, A, B, BX, ("c", ())):
            self.assertEqual(self.refused(Waiting, locks.lock, 2, ref).job, 2)
        self.assertEqual(state(locks), told)
        self.assertIs(locks.lock(1, AX), True)

    def test_no_lock(self):
        locks = locks_of((1, AX), (2, AXY), (3, B))
        told = state(locks)
        for job, ref in ((1, A), (1, AXY), (1, AY), (1, BX), (3, AX), (2, AXY), (2, AX), (3, BX), (9, AX)):
            self.refused(NoLock, locks.free, job, ref)
        for job in (1, 3, 9):
            self.refused(NoLock, locks.leave, job)
            self.refused(NoLock, locks.bars, job)
        self.assertEqual(state(locks), told)
        locks.free(1, AX)
        self.refused(NoLock, locks.free, 1, AX)
        self.refused(NoLock, locks.leave, 2)
        self.refused(NoLock, locks.bars, 2)

    def test_arguments_by_their_names(self):
        locks = Locks()
        self.assertIs(locks.lock(ref=AX, job=1), True)
        self.assertIs(locks.lock(ref=AX, job=2), False)
        self.assertEqual(locks.bars(job=2), [1])
        self.assertEqual(locks.leave(job=2), [])
        self.assertEqual(locks.free(ref=AX, job=1), [])
        self.assertEqual(locks.free_all(job=1), [])

    def test_lists_that_are_told_are_new(self):
        locks = locks_of((1, A), (2, B), (1, BX), (2, AX), (3, A))
        for ask in (locks.holds, locks.waits, locks.ring, lambda: locks.bars(3)):
            told = ask()
            kept = list(told)
            self.assertIsInstance(told, list)
            self.assertIsNot(ask(), told)
            told.clear()
            self.assertEqual(ask(), kept)
        held, waiting = locks.holds(), locks.waits()
        told = locks.free_all(1)
        self.assertEqual(told, [2])
        told.append(9)
        self.assertEqual((held, waiting), ([(1, A, 1), (2, B, 1)], [(1, BX), (2, AX), (3, A)]))
        self.assertEqual(state(locks), ([(2, AX, 1), (2, B, 1)], [(3, A)]))


class TestAsTheDocumentSays(Case):
    """Locks against a plain model, over many mixed deeds."""

    REFS = [(name, keys) for name in "ab" for keys in ((), ("1",), ("2",), ("1", "x"), ("1", "y"), ("2", "x"))]

    def deed(self, locks, plain, dice):
        job, ref = dice.randint(0, 5), dice.choice(self.REFS)
        waiting = job in plain.waiting()
        turn = dice.random()
        if turn < 0.6:
            if waiting:
                self.assertEqual(self.refused(Waiting, locks.lock, job, ref).job, job)
            else:
                self.assertIs(locks.lock(job, ref), plain.lock(job, ref))
        elif turn < 0.85 and plain.held:
            job, ref = dice.choice(plain.held)
            self.assertEqual(locks.free(job, ref), plain.free(job, ref))
        elif turn < 0.9:
            self.assertEqual(locks.free_all(job), plain.free_all(job))
        elif waiting:
            self.assertEqual(locks.leave(job), plain.leave(job))
        else:
            self.refused(NoLock, locks.leave, job)

    def check(self, locks, plain):
        self.assertEqual(locks.holds(), plain.holds())
        self.assertEqual(locks.waits(), plain.queue)
        for job in plain.waiting():
            bars = plain.bars(job)
            self.assertEqual(locks.bars(job), bars)
            self.assertNotEqual(bars, [])
        for one, other in itertools.combinations(locks.holds(), 2):
            self.assertTrue(one[0] == other[0] or not meeting(one[1], other[1]))
        ring = locks.ring()
        if ring is None:
            self.assertFalse(any(plain.in_a_ring(job) for job in plain.waiting()))
        else:
            self.assertEqual((len(ring), ring[0]), (len(set(ring)), min(ring)))
            for job, other in zip(ring, ring[1:] + ring[:1]):
                self.assertIn(job, plain.waiting())
                self.assertIn(other, plain.bars(job))

    def test_mixed_deeds(self):
        rings = 0
        for seed in range(40):
            dice = random.Random(seed)
            locks, plain = Locks(), PlainLocks()
            for _ in range(120):
                self.deed(locks, plain, dice)
                self.check(locks, plain)
                rings += locks.ring() is not None
        self.assertGreater(rings, 100)
