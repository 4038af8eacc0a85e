"""[27] to [29]: jobs that lock, wait and deal, those that are stuck, and drives."""

import random

from stemkeep.errors import NoRef, TooLong
from stemkeep.jobs import Hall, drive
from stemkeep.texts import read_program
from tests.support import Case
from tests.test_jobs import hall_of, words_of

X = ("x", ())


def turns(hall, *jobs):
    """Give turns to jobs; tell the words."""
    return [hall.turn(job) for job in jobs]


def halls_of(text, many, rows=None):
    """Tell a hall in which each of so many jobs does the label of its place in the program."""
    program = read_program(text)
    return Hall(program, [(program[place][0], []) for place in range(many)], rows=rows)


def state(hall, many):
    """Tell all that a hall tells."""
    told = [(hall.writings(job), hall.fault(job), hall.is_over(job)) for job in range(many)]
    return (hall.arrays(), hall.waiting(), hall.stuck(), told)


class TestLocks(Case):

    def test_a_free_one_is_a_step(self):
        hall = halls_of("a|  lock ^x|  lock ^x; free ^x|  write 1|b|  lock ^x|  write 2|", 2)
        self.assertEqual(turns(hall, 0, 0, 1, 0, 1), ["step", "step", "waits", "step", "waits"])
        self.assertEqual(hall.waiting(), [1])

    def test_one_that_is_let_on_by_free(self):
        hall = halls_of("a|  lock ^x(1); free ^x(1); write 1|b|  lock ^x; write 2; write 3|", 2)
        self.assertEqual(turns(hall, 0, 1, 1, 0), ["step", "waits", "waits", "step"])
        self.assertEqual((hall.waiting(), hall.writings(1)), ([1], []))
        self.assertEqual(turns(hall, 1), ["step"])
        self.assertEqual((hall.waiting(), hall.writings(1)), ([], []))
        self.assertEqual(turns(hall, 1, 1), ["step", "over"])
        self.assertEqual(hall.writings(1), ["2", "3"])

    def test_a_lock_as_the_last_deed(self):
        hall = halls_of("a|  lock ^x; free; write 1|b|  lock ^x|c|  lock ^x|", 3)
        self.assertEqual(turns(hall, 0, 1, 2, 0), ["step", "waits", "waits", "step"])
        self.assertEqual(turns(hall, 2, 1, 2, 2, 1), ["waits", "over", "over", "idle", "idle"])
        self.assertEqual(turns(hall_of("a|  lock ^x|"), 0), ["over"])

    def test_it_is_held_from_its_being_let_on(self):
        hall = halls_of("a|  lock ^x; free ^x; lock ^x|b|  lock ^x; write 2|", 2)
        self.assertEqual(turns(hall, 0, 1, 0, 0, 0), ["step", "waits", "step", "waits", "waits"])
        self.assertEqual(turns(hall, 1, 0, 1, 0), ["step", "waits", "over", "over"])

    def test_those_that_asked_first_are_let_on_first(self):
        hall = halls_of("a|  lock ^x; free ^x|b|  lock ^x(1); write 1|c|  lock ^x; write 2|d|  lock ^x(2); write 3|", 4)
        self.assertEqual(turns(hall, 0, 3, 2, 1, 0), ["step", "waits", "waits", "waits", "over"])
        self.assertEqual(turns(hall, 1, 2, 3, 3, 1, 2, 2, 1, 1),
                         ["waits", "waits", "step", "over", "waits", "step", "over", "step", "over"])

    def test_its_place_is_reckoned_when_it_first_asks(self):
        text = "a|  lock ^x(1); set ^n=2; free ^x(1); lock ^x(2); write 1|b|  lock ^x(^n); write 1|"
        text = text + "c|  lock ^x(1); write 3|"
        hall = halls_of(text, 3, rows=[(("n", ()), "1")])
        self.assertEqual(turns(hall, 0, 1, 0, 1, 0, 1), ["step", "waits", "step", "waits", "step", "step"])
        self.assertEqual(turns(hall, 0, 2, 0, 1, 2), ["step", "waits", "over", "over", "step"])

    def test_the_last_reference_behind_a_lock_that_waits(self):
        text = "a|  lock ^x; free|b|  lock ^x(2); write ^(1)|"
        hall = halls_of(text, 2, rows=[(("x", ("1",)), "x1"), (("y", ("1",)), "y1")])
        self.assertEqual(turns(hall, 0, 1, 0, 1, 1), ["step", "waits", "over", "step", "over"])
        self.assertEqual(hall.writings(1), ["x1"])

    def test_free_of_what_it_does_not_hold(self):
        for deed in ("free ^x", "free ^y(1)", "free ^y(1,2)", "free ^z"):
            hall = halls_of("a|  lock ^y; " + deed + "; write 1|b|  lock ^y; write 2|", 2)
            self.assertEqual(turns(hall, 0, 1, 0, 0), ["step", "waits", "errs", "idle"])
            self.assertEqual((hall.fault(0), hall.is_over(0), hall.writings(0)), ("free", True, []))
            self.assertEqual(turns(hall, 1, 1), ["step", "over"])

    def test_free_lets_go_once(self):
        hall = halls_of("a|  lock ^x; lock ^x; free ^x; free ^x; write 1|b|  lock ^x; write 2|", 2)
        self.assertEqual(turns(hall, 0, 0, 1, 0, 1, 0, 1), ["step", "step", "waits", "step", "waits", "step", "step"])

    def test_free_all(self):
        hall = halls_of("a|  lock ^x; lock ^x; lock ^y; free; free; write 1|b|  lock ^x; write 2|", 2)
        self.assertEqual(turns(hall, 0, 0, 0, 1, 0, 0, 1), ["step", "step", "step", "waits", "step", "step", "step"])

    def test_locks_do_not_bar_changes(self):
        hall = halls_of("a|  lock ^x; write 1|b|  set ^x=1; write ^x|", 2)
        self.assertEqual(turns(hall, 0, 1, 1), ["step", "step", "over"])

    def test_a_lock_s_place_that_is_held(self):
        hall = halls_of("a|  start; set ^n=1; keep|b|  lock ^x(^n); write 1|c|  lock ^x; free; write 1|", 3)
        self.assertEqual(turns(hall, 0, 0, 1, 2, 0, 1, 2, 1),
                         ["step", "step", "waits", "step", "over", "waits", "step", "step"])


class TestDealings(Case):

    def test_keep_and_undo(self):
        text = "a|  set ^x=1; start; set ^x=2; kill ^y; undo; start; set ^z=^x; start; set ^(1)=2|  keep|"
        hall = hall_of(text, rows=[(("y", ()), "y")])
        self.assertEqual(words_of(hall)[-1], "errs")
        self.assertEqual((hall.fault(0), hall.arrays()), ("head", [(("x", ()), "1"), (("y", ()), "y")]))
        hall = hall_of("a|  start; set ^x(1)=1; start; set ^(2)=2; undo; set ^(3)=^x(1); keep|")
        words_of(hall)
        self.assertEqual((hall.fault(0), hall.arrays()), (None, [(("x", ("1",)), "1"), (("x", ("3",)), "1")]))

    def test_own_arrays_are_not_held(self):
        hall = halls_of("a|  start; set ^x=1; keep|b|  set x=2; kill x(1); write x; kill x; write $data(x)|", 2)
        self.assertEqual(turns(hall, 0, 0, 1, 1, 1, 1, 1), ["step"] * 6 + ["over"])
        self.assertEqual(hall.writings(1), ["2", "0"])

    def test_own_arrays_are_not_undone(self):
        hall = hall_of("a|  start; set x=1; set ^x=1; undo; write x_$data(^x)|")
        words_of(hall)
        self.assertEqual(hall.writings(0), ["10"])

    def test_level(self):
        for deed in ("keep", "undo"):
            hall = hall_of("a|  write 1; start; " + deed + "; " + deed + "; write 2|")
            self.assertEqual(words_of(hall), ["step", "step", "step", "errs"])
            self.assertEqual((hall.fault(0), hall.writings(0), hall.turn(0)), ("level", ["1"], "idle"))

    def test_a_deed_that_is_held_waits_and_is_done_anew(self):
        hall = halls_of("a|  start; set ^x(1)=1; keep; write 1|b|  write $data(^x); write 2|", 2)
        self.assertEqual(turns(hall, 0, 0, 1, 1), ["step", "step", "waits", "waits"])
        self.assertEqual((hall.waiting(), hall.writings(1)), ([1], []))
        self.assertEqual(turns(hall, 0, 1), ["step", "step"])
        self.assertEqual((hall.waiting(), hall.writings(1)), ([], ["10"]))

    def test_each_deed_that_may_be_held(self):
        deeds = ["set ^x=1", "set ^(1)=1", "kill ^x", "kill ^x(1,2)", "write ^x(1)", "write $order(^x(5))", "if ^(1)",
                 "set y=$data(^x)", "set y(^x(1))=1", "for i=1:^x(1):2", "do d(^x(1))", "set ^y(^x(1))=1",
                 "write $other(^(1),2)", "lock ^z(^x(1))", "free ^z(^x(1))", "kill y(^x(1))", "do d(1+^x(1))"]
        for deed in deeds:
            text = "a|  start; set ^x(1)=1; undo; write 1|b|  lock ^z(1)|  write ^x(9); " + deed + "; write 1|d(p)|"
            hall = halls_of(text, 2, rows=[(("x", ("1",)), "1"), (("x", ("9",)), "9")])
            with self.subTest(deed):
                self.assertEqual(turns(hall, 0, 1, 1, 0, 1, 1), ["step", "step", "step", "step", "waits", "waits"])
                self.assertEqual((hall.waiting(), hall.fault(1), hall.writings(1)), ([1], None, ["9"]))
                self.assertEqual(turns(hall, 0, 1), ["step", "step"])
                self.assertEqual((hall.waiting(), hall.fault(1)), ([], None))

    def test_nothing_of_it_was_done(self):
        text = "a|  start; set ^x(1)=1; keep|b(p)|  new q; set q=^n(1)_p; set p(^(2))=^x(1); write ^(7)_p(2)|"
        program = read_program(text)
        rows = [(("n", ("1",)), "1"), (("n", ("2",)), "2"), (("x", ("7",)), "x7")]
        hall = Hall(program, [("a", []), ("b", ["w"])], rows=rows)
        told = turns(hall, 0, 0, 1, 1, 1, 1, 0, 1, 1)
        self.assertEqual(told, ["step", "step", "step", "step", "waits", "waits", "over", "step", "over"])
        self.assertEqual(hall.writings(1), ["x71"])

    def test_short_references_go_by_the_last_one_as_it_was(self):
        text = "a|  start; set ^x(1)=1; keep|b|  write ^n(1); set ^y(^(2))=^x(1); write ^(1)|"
        rows = [(("n", ("1",)), "1"), (("n", ("2",)), "2"), (("x", ("1",)), "0")]
        hall = halls_of(text, 2, rows=rows)
        self.assertEqual(turns(hall, 0, 0, 1, 1, 1, 0, 1, 1),
                         ["step", "step", "step", "waits", "waits", "over", "step", "over"])
        self.assertEqual((hall.writings(1), hall.arrays()[-1]), (["1", "1"], (("y", ("2",)), "1")))
        text = "a|  start; set ^x(1)=1; keep|b|  write ^x(9); set ^(1)=^n(^n(1)); write 1|"
        hall = halls_of(text, 2, rows=rows + [(("x", ("9",)), "9")])
        self.assertEqual(turns(hall, 1, 0, 0, 1, 1, 0, 1), ["step", "step", "step", "waits", "waits", "over", "step"])
        self.assertEqual(dict(hall.arrays())[("x", ("1",))], "1")

    def test_the_test_and_params_stay_where_it_is_held(self):
        text = "a|  start; set ^x=0; keep|b(p)|  if 1|  if ^x; write 1|  else; write 2|"
        hall = Hall(read_program(text), [("a", []), ("b", ["w"])], rows=[(X, "1")])
        self.assertEqual(turns(hall, 0, 0, 1, 1, 0, 1, 1, 1),
                         ["step", "step", "step", "waits", "over", "step", "step", "over"])
        self.assertEqual(hall.writings(1), ["2"])

    def test_what_is_undone_is_read_by_nobody(self):
        hall = halls_of("a|  start; set ^x=2; undo; write ^x|b|  set y=^x; write y|", 2, rows=[(X, "1")])
        self.assertEqual(drive(hall, [0, 0, 1, 1]), [])
        self.assertEqual((hall.writings(0), hall.writings(1)), (["1"], ["1"]))


class TestOver(Case):

    def test_a_job_that_ends_within_dealings_and_with_locks(self):
        ends = {"": ("over", None), "; quit; write 9": ("over", None), "; halt; write 9": ("over", None),
                "; write y; write 9": ("errs", "missing"), "; write 1/0": ("errs", "nought"),
                "; free ^z": ("errs", "free"), "; keep; keep; keep; keep": ("errs", "level"),
                "; undo; undo; undo": ("errs", "level"), "; write ^y(\"\")": ("errs", "key"), "; do d": ("over", None),
                "; write ^a(1,2,3,4,5,6,7)": ("errs", "deep"), "; write $order(y)": ("errs", "key")}
        for end, (word, fault) in ends.items():
            text = "a|  start; lock ^x; set ^x=1; start; lock ^y(1); kill ^y" + end + "|"
            text = text + "b|  write 0; lock ^y; write $data(^x)_$data(^y); lock ^x|d|  halt|"
            hall = halls_of(text, 2, rows=[(("y", ("2",)), "y")])
            with self.subTest(end):
                self.assertEqual(turns(hall, 1, 0, 0, 0, 0, 0), ["step"] * 6)
                if end:
                    self.assertEqual(turns(hall, 1, 1), ["waits", "waits"])
                told = words_of(hall)
                self.assertEqual((told[-1], hall.fault(0), hall.turn(0)), (word, fault, "idle"))
                self.assertEqual(turns(hall, 1, 1, 1), ["step", "step", "over"])
                if "keep" in end:
                    self.assertEqual((hall.arrays(), hall.writings(1)), ([(X, "1")], ["0", "10"]))
                else:
                    self.assertEqual((hall.arrays(), hall.writings(1)), ([(("y", ("2",)), "y")], ["0", "010"]))

    def test_a_job_that_errs_lets_others_on(self):
        hall = halls_of("a|  lock ^x; write y|b|  lock ^x; write 1|", 2)
        self.assertEqual(turns(hall, 0, 1, 0, 1, 1), ["step", "waits", "errs", "step", "over"])

    def test_each_word_of_erring(self):
        errs = {"write x": "missing", "write $order(x)": "key", "write $back(^x)": "key", "write x(\"\")": "key",
                "set x(\"\")=1": "key", "kill ^(1)": "head", "write ^(1)": "head", "set ^x(1,2,3,4,5,6,7)=1": "deep",
                "lock ^x(\"\")": "key", "lock ^x(1,1,1,1,1,1,1)": "deep", "free ^x": "free", "keep": "level",
                "undo": "level", "write 1/0": "nought", "write 1#x": "missing", "if 1#\"x\"": "nought",
                "set x=y": "missing", "for i=1:1:x": "missing", "do b(x)": "missing", "free ^x(y)": "missing"}
        for deed, word in errs.items():
            hall = hall_of("a|  write 1; " + deed + "; write 2|b(p)|")
            with self.subTest(deed):
                self.assertEqual(words_of(hall), ["step", "errs"])
                self.assertEqual((hall.fault(0), hall.is_over(0), hall.writings(0), hall.turn(0)),
                                 (word, True, ["1"], "idle"))
                self.assertEqual((hall.waiting(), hall.stuck()), ([], []))
        hall = hall_of("a|  set x=1; for i=1:1:12; set x=x_x|b|".replace("x=1", "x=\"ab\""))
        self.assertEqual((words_of(hall)[-1], hall.fault(0)), ("errs", "long"))

    def test_a_job_that_is_over_waits_no_more(self):
        hall = halls_of("a|  start; set ^x=1; undo|b|  write ^x|", 2)
        self.assertEqual(turns(hall, 0, 0, 1), ["step", "step", "waits"])
        self.assertEqual(hall.waiting(), [1])
        self.assertEqual(turns(hall, 0, 1), ["over", "errs"])
        self.assertEqual((hall.waiting(), hall.fault(1)), ([], "missing"))


class TestStuck(Case):

    def test_rings_of_locks(self):
        text = "a|  lock ^x; lock ^y|b|  lock ^y; lock ^x|c|  write 1|"
        hall = halls_of(text, 3)
        self.assertEqual((hall.stuck(), hall.waiting()), ([], []))
        turns(hall, 0, 1)
        self.assertEqual(hall.stuck(), [])
        self.assertEqual(turns(hall, 0), ["waits"])
        self.assertEqual(hall.stuck(), [])
        self.assertEqual(turns(hall, 2), ["over"])
        self.assertEqual((hall.stuck(), hall.waiting()), ([0, 1], [0]))
        self.assertEqual(turns(hall, 1), ["waits"])
        self.assertEqual((hall.stuck(), hall.waiting()), ([0, 1], [0, 1]))
        self.assertEqual(turns(hall, 0, 1, 0), ["waits"] * 3)

    def test_rings_of_dealings(self):
        text = "a|  start; set ^x=1; set ^y=1; keep|b|  start; set ^y=2; write ^x; keep|"
        hall = halls_of(text, 2)
        turns(hall, 0, 0, 1, 1)
        self.assertEqual((hall.stuck(), hall.waiting()), ([0, 1], []))
        self.assertEqual(turns(hall, 1, 0), ["waits", "waits"])
        self.assertEqual((hall.stuck(), hall.waiting()), ([0, 1], [0, 1]))

    def test_both_mixed(self):
        text = "a|  lock ^x; write ^y|b|  start; set ^y=2; lock ^x; keep|c|  lock ^x; lock ^z|"
        hall = halls_of(text, 3)
        turns(hall, 0, 1, 1, 2)
        self.assertEqual((hall.stuck(), hall.waiting()), ([0, 1, 2], [2]))
        hall = halls_of(text.replace("lock ^x; keep", "keep; lock ^x"), 3)
        turns(hall, 0, 1, 1, 2, 0)
        self.assertEqual((hall.stuck(), hall.waiting()), ([], [0, 2]))

    def test_none_where_some_job_could_do_a_step(self):
        text = "a|  lock ^x; lock ^y; free|b|  lock ^y; lock ^x|c|  for i=1:1:2; if 1|"
        hall = halls_of(text, 3)
        turns(hall, 0, 1, 0, 1)
        for _ in range(5):
            self.assertEqual(hall.stuck(), [])
            hall.turn(2)
        self.assertEqual((hall.is_over(2), hall.stuck()), (True, [0, 1]))

    def test_none_where_some_job_could_err(self):
        for deed in ("write x", "write 1/0", "keep", "free ^z", "write ^(1)"):
            hall = halls_of("a|  lock ^x; lock ^y|b|  lock ^y; lock ^x|c|  if 1; " + deed + "|", 3)
            turns(hall, 2, 0, 1, 0, 1)
            self.assertEqual(hall.stuck(), [])
            self.assertEqual(turns(hall, 2), ["errs"])
            self.assertEqual(hall.stuck(), [0, 1])

    def test_none_where_one_was_let_on(self):
        hall = halls_of("a|  lock ^x|b|  lock ^x; lock ^y; lock ^x|c|  lock ^y; if 1; lock ^x|", 3)
        hall.turn(2)
        hall = halls_of("a|  lock ^x; halt|b|  lock ^x|", 2)
        self.assertEqual(turns(hall, 0, 1, 0), ["step", "waits", "over"])
        self.assertEqual((hall.stuck(), hall.waiting()), ([], [1]))
        self.assertEqual(turns(hall, 1), ["over"])

    def test_asking_changes_nothing(self):
        text = "a|  write ^x(1); write ^(2)_^n(1); set ^x(3)=1; set ^y(^(2))=^x(3); lock ^z; write ^x(9)|"
        text = text + "b|  start; set ^x(3)=1; lock ^z; keep|"
        rows = [(("n", ("1",)), "n1"), (("n", ("2",)), "n2")] + [(("x", (key,)), "x" + key) for key in "1279"]
        told = []
        for asks in (0, 1, 5):
            hall = halls_of(text, 2, rows=rows)
            words = []
            for job in (0, 0, 1, 1, 0, 0, 1, 1, 0, 0, 0, 0):
                for _ in range(asks):
                    hall.stuck()
                words.append(hall.turn(job))
            self.assertEqual((hall.writings(0), words.count("waits")), (["x1", "x2n1", "x9"], 2))
            told.append((words, state(hall, 2)))
        self.assertEqual(told[0], told[1])
        self.assertEqual(told[0], told[2])

    def test_a_lock_that_only_others_who_wait_bar(self):
        text = "a|  lock ^x(1); lock ^y|b|  lock ^x; write 1|c|  lock ^x(2); write 1|d|  lock ^y; lock ^x(3)|"
        hall = halls_of(text, 4)
        turns(hall, 0, 3, 1)
        self.assertEqual(hall.stuck(), [0, 1, 2, 3])
        self.assertEqual(turns(hall, 2, 0, 3), ["waits"] * 3)
        self.assertEqual(hall.stuck(), [0, 1, 2, 3])

    def test_a_stem_that_is_held_goes_ahead(self):
        hall = halls_of("a|  lock ^x; lock ^x(1); free; write 1|b|  lock ^x(1)|", 2)
        turns(hall, 0, 1)
        self.assertEqual(hall.stuck(), [])
        self.assertEqual(turns(hall, 0), ["step"])


class TestDrive(Case):

    TEXT = "a|  write 1; write 2; write 3|"

    def test_until_all_are_over(self):
        for picks in ([], [0], [1], [0, 1, 2], [-1, 5, 10 ** 40], list(range(400))):
            hall = hall_of("a(n)|  set ^x(n)=n; write n|", *[("a", [str(n)]) for n in range(5)])
            self.assertEqual(drive(hall, picks), [])
            self.assertEqual([hall.writings(job) for job in range(5)], [[str(n)] for n in range(5)])

    def test_picks(self):
        program = read_program("a(n)|  do b(n); do b(n); do b(n)|b(n)|  set ^x=^x_n|")
        told = {(): "000111222", (0,): "000111222", (1,): "111222000", (2,): "222000111", (-1,): "222111000",
                (3, -5): "", (0, 1, 2): "", (1, -1, 0, 7, 2): "", (10 ** 40, -10 ** 40): ""}
        for picks, order in told.items():
            hall = Hall(program, [("a", ["0"]), ("a", ["1"]), ("a", ["2"])], rows=[(X, "")])
            self.assertEqual(drive(hall, list(picks)), [])
            expected = self.by_picks(picks, [0, 1, 2])
            self.assertEqual(hall.arrays(), [(X, expected)])
            self.assertIn(order, ("", expected))

    def by_picks(self, picks, jobs):
        """Tell what jobs of six turns write at every other one of theirs."""
        left = {job: 6 for job in jobs}
        told = ""
        for turn in range(6 * len(jobs)):
            there = [job for job in jobs if left[job]]
            job = there[picks[turn % len(picks)] % len(there)] if picks else there[0]
            left[job] -= 1
            told += str(job) if left[job] % 2 == 0 else ""
        return told

    def test_told_is_the_list_of_the_stuck_ones(self):
        hall = halls_of("a|  lock ^x; lock ^y|b|  write 1|c|  lock ^y; lock ^x|", 3)
        self.refused(TooLong, drive, hall, [0, 2], most=100)
        self.assertEqual(drive(hall, [0, 2, 1]), [0, 2])
        self.assertEqual((hall.is_over(1), hall.waiting()), (True, []))
        self.assertEqual(drive(hall, [], most=0), [0, 2])
        told = drive(hall, [])
        told.clear()
        self.assertEqual(drive(hall, []), [0, 2])

    def test_no_turn_is_given_where_all_are_stuck(self):
        hall = halls_of("a|  lock ^x; lock ^y|b|  lock ^y; lock ^x|", 2)
        self.assertEqual(drive(hall, [0, 1]), [0, 1])
        self.assertEqual(hall.waiting(), [])

    def test_most(self):
        for most in (3, 4, 5000):
            hall = hall_of(self.TEXT)
            self.assertEqual(drive(hall, [], most=most), [])
        for most in (0, 1, 2, -1):
            hall = hall_of(self.TEXT)
            self.assertEqual(self.refused(TooLong, drive, hall, [], most=most).most, most)
        for ahead in (0, 1, 2, 3):
            hall = hall_of(self.TEXT)
            turns(hall, *[0] * ahead)
            if ahead < 3:
                self.refused(TooLong, drive, hall, [], most=2 - ahead)
            self.assertEqual(drive(hall, [], most=3 - ahead), [])
        self.assertEqual(self.refused(TooLong, drive, hall_of("a|  for i=1:0:1|"), []).most, 5000)

    def test_five_thousand_turns(self):
        hall = hall_of("a|  for i=1:1:2499; set ^x(i#7)=i|")
        self.assertEqual(drive(hall, []), [])
        hall = hall_of("a|  if 1|  for i=1:1:2499; set ^x(i#7)=i|")
        self.assertEqual(drive(hall, [3]), [])
        hall = hall_of("a|  if 1; if 1|  for i=1:1:2499; set ^x(i#7)=i|")
        self.refused(TooLong, drive, hall, [])

    def test_too_long_changes_nothing(self):
        text = "a|  write 1; lock ^x; start; set ^y=1; keep; free; write 2|b|  write ^y; lock ^x; set ^z=1; write 3|"
        for ahead in ((), (0,), (0, 0, 0, 0, 1), (0, 0, 1, 1, 0, 1, 0, 0)):
            for most in (1, 2, 3):
                hall, same = halls_of(text, 2, rows=[(("y", ()), "y")]), halls_of(text, 2, rows=[(("y", ()), "y")])
                turns(hall, *ahead)
                turns(same, *ahead)
                self.refused(TooLong, drive, hall, [0, 1], most=most)
                self.assertEqual(state(hall, 2), state(same, 2))
                self.assertEqual(drive(hall, [0, 1]), drive(same, [0, 1]))
                self.assertEqual(state(hall, 2), state(same, 2))

    def test_picks_are_not_changed(self):
        picks = [3, -4, 1]
        drive(hall_of(self.TEXT), picks)
        self.assertEqual(picks, [3, -4, 1])

    def test_wrong_rows_are_refused_by_arrays(self):
        self.refused(NoRef, hall_of, self.TEXT, rows=[(("", ()), "w")])


class TestStuckAsTheDocumentSays(Case):
    """What is stuck, told by giving each job a turn of a hall that has had the same turns."""

    DEEDS = ["lock ^x", "lock ^x(1)", "lock ^x(2)", "lock ^y", "free", "start", "start", "undo", "set ^x(1)=1",
             "set ^x(2)=1", "set ^y=1", "kill ^x", "write ^y", "write $data(^x)", "lock ^x(^y)"]

    def program(self, dice):
        return "".join(f"{label}|  " + "; ".join(dice.choice(self.DEEDS) for _ in range(7)) + "|" for label in "abc")

    def words(self, make, given):
        """Tell the word that each job's next turn tells, in halls that have had the same turns."""
        told = []
        for job in range(3):
            hall = make()
            turns(hall, *given)
            told.append(hall.turn(job))
        return told

    def test_random_programs(self):
        stuck = 0
        for seed in range(300):
            dice = random.Random(seed)
            program = read_program(self.program(dice))
            rows = [(("y", ()), "1")] * dice.randint(0, 3)

            def make():
                return Hall(program, [(label, []) for label in "abc"], rows=rows)
            hall = make()
            given = []
            while not all(hall.is_over(job) for job in range(3)):
                words = self.words(make, given)
                if set(words) <= {"waits", "idle"}:
                    self.assertEqual(hall.stuck(), [job for job in range(3) if words[job] == "waits"])
                    stuck += 1
                    break
                self.assertEqual(hall.stuck(), [])
                given.append(dice.randint(0, 2))
                hall.turn(given[-1])
        self.assertGreater(stuck, 40)
