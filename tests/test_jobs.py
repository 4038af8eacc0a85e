"""[25] and [26]: halls, and the deeds of one job."""

import random

from stemkeep.errors import Erring, NoJob, NoLabel, NoProgram
from stemkeep.jobs import Hall, drive
from stemkeep.texts import read_program
from tests.plainjob import PlainJob, random_job
from tests.support import Case
from tests.test_locks import NO_JOBS


def hall_of(text, *jobs, rows=None):
    """Tell a hall with a program that is written, and jobs; the first label of the program is the only job's else."""
    program = read_program(text)
    return Hall(program, list(jobs) or [(program[0][0], [])], rows=rows)


def words_of(hall, job=0):
    """Give a job turns until it is over; tell the words."""
    told = []
    while not hall.is_over(job):
        told.append(hall.turn(job))
    return told


def written(text, *worths, rows=None):
    """Tell what the first label writes, done with such worths to its end."""
    program = read_program(text)
    hall = Hall(program, [(program[0][0], list(worths))], rows=rows)
    words_of(hall)
    if hall.fault(0) is not None:
        raise Erring(hall.fault(0))
    return hall.writings(0)


class TestTurns(Case):

    def test_each_deed_is_a_turn(self):
        hall = hall_of("a|  set x=1; write x|  set y=2|  write y|")
        self.assertEqual(words_of(hall), ["step", "step", "step", "over"])
        self.assertEqual(hall.writings(0), ["1", "2"])
        self.assertEqual((hall.turn(0), hall.turn(0)), ("idle", "idle"))
        self.assertEqual((hall.is_over(0), hall.fault(0), hall.stuck()), (True, None, []))

    def test_ends_of_rows_and_labels_are_no_turns(self):
        hall = hall_of("a|  |  do b; do b|  |  do c|  |b|c|  |  |  do d|d|  |  write 1|  |")
        self.assertEqual(words_of(hall), ["step", "step", "step", "step", "over"])
        self.assertEqual(hall.writings(0), ["1"])

    def test_a_label_without_deeds_is_over_at_once(self):
        for text in ("a|", "a|  |", "a|  |  |  |"):
            hall = hall_of(text)
            self.assertIs(hall.is_over(0), True)
            self.assertEqual((hall.turn(0), hall.stuck(), hall.waiting(), drive(hall, [])), ("idle", [], [], []))
        self.assertEqual(words_of(hall_of("a|  do b|b|")), ["over"])

    def test_the_rest_behind_a_do(self):
        self.assertEqual(written("a|  write 1; do b; write 4|  write 5|b|  write 2|  write 3|"), list("12345"))
        self.assertEqual(written("a|  do b; write 3|b|  do c; write 2|c|  write 1|"), list("123"))

    def test_of_several_jobs(self):
        hall = hall_of("a(n)|  write n|  write n+1|b|  write 7|", ("a", ["1"]), ("b", []), ("a", ["4"]))
        self.assertEqual([hall.turn(job) for job in (2, 0, 1, 1, 2, 2, 0)],
                         ["step", "step", "over", "idle", "over", "idle", "over"])
        self.assertEqual([hall.writings(job) for job in range(3)], [["1", "2"], ["7"], ["4", "5"]])

    def test_params_and_worths(self):
        hall = hall_of("a(x,y)|  write x_y; write $data(x); write $data(z)|", ("a", ["p", "q"]))
        words_of(hall)
        self.assertEqual(hall.writings(0), ["pq", "1", "0"])
        self.assertEqual(written("a(x)|  write x|", ""), [""])

    def test_own_arrays_are_each_job_s_own(self):
        hall = hall_of("a|  set x=1|  write x|b|  write $data(x)|", ("a", []), ("b", []), ("b", []))
        self.assertEqual(words_of(hall), ["step", "over"])
        self.assertEqual((hall.turn(1), hall.writings(1)), ("over", ["0"]))
        self.assertEqual(hall.arrays(), [])

    def test_shared_arrays_have_rows_at_first(self):
        rows = [(("a", ()), "1"), (("a", ("x",)), ""), (("b", ("2", "y")), "w")]
        hall = hall_of("a|  write ^a; write ^a(\"x\"); write ^b(2,\"y\")|", rows=rows)
        self.assertEqual(hall.arrays(), rows)
        words_of(hall)
        self.assertEqual(hall.writings(0), ["1", "", "w"])
        self.assertEqual(hall_of("a|", rows=[]).arrays(), [])
        self.assertEqual(hall_of("a|", rows=hall.arrays()).arrays(), rows)

    def test_arrays_are_told_by_names_and_walked(self):
        hall = hall_of("a|  set ^b=1|  set ^a(10)=2|  set ^a(9,\"x\")=3|  set ^a(\"k\")=4|  set ^ab=5|  set ^a(9)=6|")
        words_of(hall)
        told = [(("a", ("9",)), "6"), (("a", ("9", "x")), "3"), (("a", ("10",)), "2"), (("a", ("k",)), "4"),
                (("ab", ()), "5"), (("b", ()), "1")]
        self.assertEqual(hall.arrays(), told)


class TestSetKillWrite(Case):

    def test_set_and_kill(self):
        hall = hall_of("a|  set x(1)=1; set x(1,2)=2; kill x(1); write $data(x); set ^x(1)=3; set ^(2)=4; kill ^(1)|")
        words_of(hall)
        self.assertEqual((hall.writings(0), hall.arrays()), (["0"], [(("x", ("2",)), "4")]))
        hall = hall_of("a|  set ^x(1,1)=1; set ^x(1,2)=1; set ^y=1; kill ^x(1); kill ^none; kill none(1)|")
        words_of(hall)
        self.assertEqual(hall.arrays(), [(("y", ()), "1")])

    def test_the_place_is_reckoned_ahead_of_the_worth(self):
        hall = hall_of("a|  set ^x(1)=1; set ^x(2,1)=^(1)+4; set ^(5)=^y(3)|", rows=[(("x", ("2", "1")), "7"),
                                                                                  (("y", ("3",)), "y")])
        words_of(hall)
        self.assertEqual(hall.arrays(), [(("x", ("1",)), "1"), (("x", ("2", "1")), "11"), (("x", ("2", "5")), "y"),
                                         (("y", ("3",)), "y")])
        hall = hall_of("a|  set ^x(y)=z|  write 1|")
        self.assertEqual((hall.turn(0), hall.fault(0)), ("errs", "missing"))
        hall = hall_of("a|  set ^x(1/0)=z|")
        self.assertEqual((hall.turn(0), hall.fault(0)), ("errs", "nought"))
        hall = hall_of("a|  set ^(y)=1/0|")
        self.assertEqual((hall.turn(0), hall.fault(0)), ("errs", "missing"))

    def test_the_last_one_goes_on_from_deed_to_deed(self):
        rows = [(("x", ("1",)), "x1"), (("x", ("2",)), "x2"), (("y", ("1",)), "y1"), (("y", ("2",)), "y2")]
        self.assertEqual(written("a|  write ^x(1); write ^(2)|  write ^y(1)|  do b|b|  write ^(2)|", rows=rows),
                         ["x1", "x2", "y1", "y2"])
        self.assertEqual(written("a|  kill ^x(3); write ^(2); set z=^y(1); write ^(2)|", rows=rows), ["x2", "y2"])
        self.assertEqual(written("a|  if ^x(1)=1; write 1|  write ^(2)|", rows=rows), ["x2"])
        self.assertEqual(written("a|  lock ^x(3); write ^(2)|  lock ^y(1); free ^x(3); write ^(1)|", rows=rows),
                         ["x2", "x1"])

    def test_writings(self):
        self.assertEqual(written("a|  write \"\"; write \"a b\"; write 1_2|"), ["", "a b", "12"])


class TestIfElse(Case):

    def test_if(self):
        self.assertEqual(written("a|  if 1; write 1; write 2|  write 3|"), ["1", "2", "3"])
        self.assertEqual(written("a|  if 0; write 1; write 2|  write 3|"), ["3"])
        self.assertEqual(written("a|  if \"x\"; write 1|  if \"-2x\"; write 2|  if \"\"; write 3|"), ["2"])
        self.assertEqual(written("a|  if 1; if 0; write 1|  if 1; if 1; write 2|"), ["2"])

    def test_else(self):
        self.assertEqual(written("a|  if 1; write 1|  else; write 2|"), ["1"])
        self.assertEqual(written("a|  if 0; write 1|  else; write 2|"), ["2"])
        self.assertEqual(written("a|  else; write 1|"), ["1"])
        self.assertEqual(written("a|  if 0|  else; write 1; else; write 2|  else; write 3|"), ["1", "2", "3"])
        self.assertEqual(written("a|  if 1; else; write 1|  write 2|"), ["2"])
        self.assertEqual(written("a|  if 1; write 1; if 0; write 2|  else; write 3|"), ["1", "3"])

    def test_the_test_is_the_job_s(self):
        self.assertEqual(written("a|  if 1; do b|  else; write 1|b|  if 0|"), ["1"])
        self.assertEqual(written("a|  do b|  else; write 1|b|  if 1|"), [])
        self.assertEqual(written("a|  if 0|  do b|b|  else; write 1|"), ["1"])
        hall = hall_of("a|  if 1|  else; write 1|b|  else; write 2|", ("a", []), ("b", []))
        self.assertEqual([hall.turn(0), hall.turn(1), hall.turn(1), hall.turn(0)], ["step", "step", "over", "over"])

    def test_words(self):
        self.assertEqual(words_of(hall_of("a|  if 0; write 1; write 2|  write 3|")), ["step", "over"])
        self.assertEqual(words_of(hall_of("a|  if 0; write 1|")), ["over"])
        self.assertEqual(words_of(hall_of("a|  if 1; write 1|")), ["step", "over"])
        self.assertEqual(words_of(hall_of("a|  if 1|  else; write 1|")), ["step", "over"])

    def test_what_errs_leaves_the_test(self):
        hall = hall_of("a|  if x; write 1|")
        self.assertEqual((hall.turn(0), hall.fault(0), hall.turn(0)), ("errs", "missing", "idle"))


class TestFor(Case):

    def test_rounds(self):
        self.assertEqual(written("a|  for i=1:1:3; write i; write i*i|  write \"end\"_i|"),
                         ["1", "1", "2", "4", "3", "9", "end3"])
        self.assertEqual(written("a|  for i=1:2:6; write i|"), ["1", "3", "5"])
        self.assertEqual(written("a|  for i=3:-1:1; write i|"), ["3", "2", "1"])
        self.assertEqual(written("a|  for i=5:1:5; write i|"), ["5"])
        self.assertEqual(written("a|  for i=\"-1\":-2:\"-6\"; write i|"), ["-1", "-3", "-5"])

    def test_not_at_all_where_first_is_beyond(self):
        for head in ("i=2:1:1", "i=1:-1:2", "i=0:1:\"-1\"", "i=1:1:\"x\""):
            self.assertEqual(written("a|  for " + head + "; write i|  write $data(i)|"), ["0"])
            self.assertEqual(words_of(hall_of("a|  for " + head + "; write i|")), ["over"])

    def test_turns(self):
        self.assertEqual(words_of(hall_of("a|  for i=1:1:2; write i|")), ["step"] * 4 + ["over"])
        self.assertEqual(words_of(hall_of("a|  for i=1:1:2|")), ["step"] * 2 + ["over"])
        self.assertEqual(words_of(hall_of("a|  for i=1:1:2|  write i|")), ["step"] * 3 + ["over"])
        self.assertEqual(words_of(hall_of("a|  for i=1:1:2; write i; write i|  write i|")), ["step"] * 7 + ["over"])

    def test_the_name_is_set_by_those_turns(self):
        hall = hall_of("a|  for i=1:1:2; set ^x(i)=$data(i)|  set ^y=i|")
        told = []
        while not hall.is_over(0):
            hall.turn(0)
            told.append(len(hall.arrays()))
        self.assertEqual(told, [0, 1, 1, 2, 2, 3])
        self.assertEqual(hall.arrays()[-1], (("y", ()), "2"))

    def test_a_step_of_0_has_no_end(self):
        for head in ("i=1:0:3", "i=5:0:3", "i=5:\"x\":3"):
            hall = hall_of("a|  for " + head + "; write i|")
            self.assertEqual([hall.turn(0) for _ in range(99)], ["step"] * 99)
            self.assertEqual(hall.writings(0), [head[2]] * 49)
        self.assertEqual(written("a|  set n=0|  for i=1:0:1; set n=n+1; if n=4; quit|  write n|"), ["4"])

    def test_numbers_of_its_worths(self):
        self.assertEqual(written("a|  for i=\"01x\":\"+2\":\"5y\"; write i|"), ["1", "3", "5"])
        self.assertEqual(written("a|  for i=\"x\":1:1; write i|"), ["0", "1"])
        self.assertEqual(written("a|  set f=1; set s=2; set l=5|  for i=f:s:l; set s=1; set l=9; set f=0; write i|"),
                         ["1", "3", "5"])

    def test_first_step_and_last_are_reckoned_from_the_left(self):
        rows = [(("n", ("1",)), "1"), (("n", ("2",)), "2"), (("n", ("3",)), "5")]
        self.assertEqual(written("a|  for i=^n(1):^(2):^(3); write i|", rows=rows), ["1", "3", "5"])
        hall = hall_of("a|  for i=x:1/0:^(1)|")
        self.assertEqual((hall.turn(0), hall.fault(0)), ("errs", "missing"))
        hall = hall_of("a|  for i=1:1/0:^(1)|")
        self.assertEqual((hall.turn(0), hall.fault(0)), ("errs", "nought"))
        hall = hall_of("a|  for i=1:1:^(1)|")
        self.assertEqual((hall.turn(0), hall.fault(0)), ("errs", "head"))

    def test_whatever_was_done_to_the_name(self):
        self.assertEqual(written("a|  for i=1:1:3; write i; set i=9|  write i|"), ["1", "2", "3", "9"])
        self.assertEqual(written("a|  for i=1:1:3; write i; kill i|  write $data(i)|"), ["1", "2", "3", "0"])
        self.assertEqual(written("a|  for i=1:1:3; new i; set i=7|  write i|b|"), ["7"])
        self.assertEqual(written("a|  for i=1:1:2; set i(i)=i; write $order(i(\"\"))|"), ["1", "1"])

    def test_for_within_for(self):
        self.assertEqual(written("a|  for i=1:1:2; for j=1:1:2; write i_j|  write \"e\"|"),
                         ["11", "12", "21", "22", "e"])
        self.assertEqual(written("a|  for i=1:1:2; for j=i:1:1; write i_j|  write j|"), ["11", "1"])
        self.assertEqual(written("a|  for i=1:1:2; for i=5:1:6; write i|"), ["5", "6", "5", "6"])
        self.assertEqual(written("a|  for i=1:1:2; write i; for j=1:1:2; for k=1:1:2; write i_j_k|"),
                         ["1", "111", "112", "121", "122", "2", "211", "212", "221", "222"])
        self.assertEqual(words_of(hall_of("a|  for i=1:1:2; for j=1:1:1|")), ["step"] * 6 + ["over"])

    def test_a_rest_that_is_passed_over_ends_that_round_alone(self):
        self.assertEqual(written("a|  for i=1:1:4; if i#2; write i|  write \"e\"|"), ["1", "3", "e"])
        self.assertEqual(written("a|  for i=1:1:2; for j=1:1:3; if j=2; write i_j|"), ["12", "22"])
        self.assertEqual(written("a|  for i=1:1:3; else; write i; if i=2|"), ["1", "2"])
        self.assertEqual(written("a|  for i=1:1:2; if i=2; for j=1:1:2; write j|"), ["1", "2"])
        self.assertEqual(words_of(hall_of("a|  for i=1:1:2; if 0; write i|")), ["step"] * 4 + ["over"])

    def test_if_ahead_of_for(self):
        self.assertEqual(written("a|  if 0; for i=1:1:2; write i|  else; for i=5:1:6; write i|"), ["5", "6"])

    def test_do_within_a_round(self):
        self.assertEqual(written("a|  for i=1:1:3; do b(i); write i|b(n)|  write n*10|  quit|  write \"no\"|"),
                         ["10", "1", "20", "2", "30", "3"])
        self.assertEqual(written("a|  for i=1:1:2; do b|b|  for i=7:1:8; write i|"), ["7", "8", "7", "8"])


class TestQuit(Case):

    def test_ends_the_innermost_for_and_its_row(self):
        self.assertEqual(written("a|  for i=1:1:3; write i; quit; write \"no\"|  write \"e\"|"), ["1", "e"])
        self.assertEqual(written("a|  for i=1:1:5; write i; if i=3; quit|  write i|"), ["1", "2", "3", "3"])
        self.assertEqual(words_of(hall_of("a|  for i=1:1:3; quit|")), ["step", "over"])
        self.assertEqual(words_of(hall_of("a|  for i=1:1:3; quit; write 1|  write 2|")), ["step", "step", "over"])

    def test_ends_the_round_of_the_for_around_it(self):
        self.assertEqual(written("a|  for i=1:1:2; for j=1:1:3; write i_j; if j=2; quit|  write \"e\"|"),
                         ["11", "12", "21", "22", "e"])
        self.assertEqual(written("a|  for i=1:1:2; for j=1:1:3; quit|  write i_j|"), ["21"])
        self.assertEqual(words_of(hall_of("a|  for i=1:1:2; for j=1:1:9; quit|")), ["step"] * 6 + ["over"])
        self.assertEqual(written("a|  for i=1:1:2; for j=1:1:2; for k=1:1:9; write i_j_k; quit|"),
                         ["111", "121", "211", "221"])

    def test_ends_the_label_else(self):
        self.assertEqual(written("a|  write 1; quit; write 2|  write 3|"), ["1"])
        self.assertEqual(written("a|  do b; write 3|b|  write 1; quit|  write 2|"), ["1", "3"])
        self.assertEqual(written("a|  for i=1:1:2; write i|  quit|  write 3|"), ["1", "2"])
        self.assertEqual(written("a|  for i=2:1:1; quit|  write 3|"), ["3"])
        self.assertEqual(written("a|  quit; for i=1:1:2; write i|"), [])
        self.assertEqual(words_of(hall_of("a|  quit|  write 1|")), ["over"])
        self.assertEqual(words_of(hall_of("a|  do b|b|  quit|  write 1|")), ["step", "over"])

    def test_a_for_of_another_label_is_none_of_its_row(self):
        self.assertEqual(written("a|  for i=1:1:3; do b; write i|b|  write \"b\"; quit|"),
                         ["b", "1", "b", "2", "b", "3"])

    def test_halt(self):
        self.assertEqual(written("a|  write 1; halt; write 2|  write 3|"), ["1"])
        self.assertEqual(written("a|  do b|  write 2|b|  for i=1:1:3; write i; halt|  write 9|"), ["1"])
        hall = hall_of("a|  do b; write 1|b|  if 1; halt|")
        self.assertEqual((words_of(hall), hall.turn(0), hall.fault(0)), (["step", "step", "over"], "idle", None))


class TestDoAndNew(Case):

    def test_params_are_new_ones(self):
        self.assertEqual(written("a|  set x=1; set x(1)=2|  do b(5)|  write x; write x(1)|b(x)|"
                                 "  write x; write $data(x)|"
                                 "  set x(2)=1|"), ["5", "1", "1", "2"])
        self.assertEqual(written("a|  do b(5)|  write $data(x)|b(x)|  set x(1)=3; write x(1)|"), ["3", "0"])
        self.assertEqual(written("a|  set x=1; set y=2|  do b(y,x)|  write x_y|b(x,y)|  write x_y|"), ["21", "12"])
        self.assertEqual(written("a|  do b(\"\")|b(x)|  write $data(x)_x|"), ["1"])

    def test_other_names_are_the_job_s(self):
        self.assertEqual(written("a|  set x=1|  do b|  write x_y|b|  set x=x+1; set y=7|"), ["27"])

    def test_parts_from_the_left(self):
        rows = [(("n", ("1",)), "1"), (("n", ("2",)), "2")]
        self.assertEqual(written("a|  do b(^n(1),^(2))|b(x,y)|  write x_y|", rows=rows), ["12"])
        hall = hall_of("a|  do b(x,1/0)|b(x,y)|")
        self.assertEqual((hall.turn(0), hall.fault(0)), ("errs", "missing"))

    def test_its_own_label(self):
        self.assertEqual(written("a(n)|  write n|  if n<3; do a(n+1)|  write n|", "1"), ["1", "2", "3", "3", "2", "1"])
        text = "a|  do f(6,1)|f(n,p)|  if n<2; write p; quit|  do f(n-1,p*n)|"
        self.assertEqual(written(text), ["720"])

    def test_many_labels_within_one_another(self):
        hall = hall_of("a(n)|  if n<2000; do a(n+1)|  set x=n|", ("a", ["1"]))
        self.assertEqual(drive(hall, [], most=10000), [])
        self.assertEqual((hall.is_over(0), hall.fault(0)), (True, None))

    def test_new_names_are_empty_and_come_back(self):
        text = "a|  set x=1; set x(1)=2; set y=3|  do b|  write x_x(1)_y_$data(z)|b|  new x,y,z|"
        text = text + "  write $data(x)_$data(y)|  set x=7; set x(2)=8; set z=9|"
        self.assertEqual(written(text), ["00", "1230"])
        for ending in ("", "  quit|  set x=8|", "  if 1; quit; set x=8|", "  for i=1:1:2; set x=i|"):
            self.assertEqual(written("a|  set x=1|  do b|  write x|b|  new x|  set x=7|" + ending), ["1"])
            self.assertEqual(written("a|  do b|  write $data(x)|b|  new x|  set x=7|" + ending), ["0"])

    def test_new_of_what_has_no_worth_itself(self):
        self.assertEqual(written("a|  set x(1,2)=1|  do b|  write $data(x)_x(1,2)|b|  new x; set x=5|"), ["101"])

    def test_new_twice_and_of_params(self):
        self.assertEqual(written("a|  set x=1|  do b|  write x|b|  new x|  set x=2|  new x|  set x=3|"), ["1"])
        self.assertEqual(written("a|  set x=1|  do b(2)|  write x|b(x)|  new x|  write $data(x); set x=3|"), ["0", "1"])
        self.assertEqual(written("a|  set x=1|  do b|  write x|b|  new x|  set x=2|  do c|  write x|c|  new x|"
                                 "  set x=3|"), ["2", "1"])

    def test_new_of_names_alone(self):
        self.assertEqual(written("a|  set x=1; set xx=2|  do b|b|  new x|  write xx|"), ["2"])
        hall = hall_of("a|  new x|  write ^x|", rows=[(("x", ()), "1")])
        words_of(hall)
        self.assertEqual(hall.writings(0), ["1"])

    def test_new_in_the_first_label(self):
        self.assertEqual(written("a(x)|  new x|  write $data(x)|", "1"), ["0"])

    def test_of_great_arrays_many_times(self):
        text = "a|  for i=1:1:900; set x(i)=i|  for i=1:1:900; do b(i)|  write x(900)|b(x)|  new x|  new x|"
        self.assertEqual(written(text), ["900"])


class TestAsAPlainJobDoes(Case):

    def test_random_programs(self):
        ended = 0
        for seed in range(2500):
            dice = random.Random(seed)
            program = random_job(dice)
            worths = [dice.choice("0123") for _ in program[0][1]]
            plain = PlainJob(program)
            words = plain.words("a", worths, 150)
            hall = Hall(program, [("a", worths)])
            told = []
            while not hall.is_over(0) and len(told) < 150:
                told.append(hall.turn(0))
            self.assertEqual(told, words)
            if hall.is_over(0):
                ended += len(told) > 5
                self.assertEqual(hall.writings(0), plain.written)
        self.assertGreater(ended, 500)


class TestHall(Case):

    def test_no_job(self):
        hall = hall_of("a|  write 1|", ("a", []), ("a", []))
        for job in NO_JOBS + [2, 3, 10 ** 40]:
            with self.subTest(repr(job)):
                for ask in (hall.turn, hall.writings, hall.fault, hall.is_over):
                    self.refused(NoJob, ask, job)
        self.assertEqual([hall.turn(0), hall.turn(1)], ["over", "over"])
        self.refused(NoJob, Hall([], []).turn, 0)

    def test_no_label(self):
        program = read_program("a|b(x,y)|")
        for label, worths in (("c", []), ("", []), ("A", []), ("a", ["1"]), ("b", []), ("b", ["1"]), ("b", ["1"] * 3),
                              ("x", []), ("%", []), (None, []), (1, []), (["a"], []), (("a",), [])):
            with self.subTest(label=label, worths=worths):
                for jobs in ([(label, worths)], [("a", []), (label, worths), ("none", [])]):
                    self.assertEqual(self.refused(NoLabel, Hall, program, jobs).label, label)
        self.assertEqual(self.refused(NoLabel, Hall, [], [("a", [])]).label, "a")
        self.assertEqual(self.refused(NoLabel, Hall, program, [("b", []), ("c", [])]).label, "b")

    def test_no_program_ahead_of_no_label(self):
        for program in (None, "a|", [("b", [], []), ("a", [], [])], [("a", [], [[("quit",), ()]])]):
            self.refused(NoProgram, Hall, program, [("none", [])])

    def test_no_jobs(self):
        hall = Hall(read_program("a|  write 1|"), [], rows=[(("a", ()), "1")])
        self.assertEqual((hall.stuck(), hall.waiting(), hall.arrays()), ([], [], [(("a", ()), "1")]))
        self.assertEqual(drive(hall, [1, 2]), [])

    def test_what_is_handed_in_may_be_changed_later(self):
        program = read_program("a(p)|  do b(^x(1))|  set ^y(p)=1|b(q)|  new z|  write p_q|")
        jobs, rows = [("a", ["7"])], [(("x", ("1",)), "w")]
        kept = (read_program("a(p)|  do b(^x(1))|  set ^y(p)=1|b(q)|  new z|  write p_q|"), [("a", ["7"])], list(rows))
        hall = Hall(program, jobs, rows=rows)
        self.assertEqual((program, jobs, rows), kept)
        program[0][2][0][0][2][0][2].clear()
        program[0][2][0].clear()
        program[0][1].clear()
        program[1][2][0][0][1].clear()
        program[1][2].clear()
        program.clear()
        jobs[0][1].clear()
        jobs.clear()
        rows.clear()
        self.assertEqual(words_of(hall), ["step", "step", "step", "over"])
        self.assertEqual((hall.writings(0), hall.arrays()), (["7w"], [(("x", ("1",)), "w"), (("y", ("7",)), "1")]))

    def test_lists_that_are_told_are_new(self):
        hall = hall_of("a|  write 1; lock ^x|  write 2|b|  lock ^x|  lock ^x|", ("a", []), ("b", []),
                       rows=[(("a", ()), "1")])
        for job in (0, 0, 1, 0):
            hall.turn(job)
        for ask in (hall.arrays, lambda: hall.writings(0), hall.waiting, hall.stuck):
            told = ask()
            kept = list(told)
            self.assertIsInstance(told, list)
            self.assertIsNot(ask(), told)
            told.append(9)
            self.assertEqual(ask(), kept)
        waiting, writings = hall.waiting(), hall.writings(0)
        hall.turn(1)
        self.assertEqual((waiting, writings, hall.waiting()), ([1], ["1", "2"], []))

    def test_arguments_by_their_names(self):
        program = read_program("a(x)|  write x|")
        hall = Hall(rows=[(("a", ()), "1")], jobs=[("a", ["1"])], program=program)
        self.assertEqual((hall.is_over(job=0), hall.fault(job=0)), (False, None))
        self.assertEqual(hall.turn(job=0), "over")
        self.assertEqual(hall.writings(job=0), ["1"])
        self.assertEqual(drive(most=3, picks=[1], hall=Hall(program, [("a", ["1"])])), [])

    def test_two_halls_know_nothing_of_each_other(self):
        program = read_program("a|  set ^x=1; set x=1|")
        one, other = Hall(program, [("a", [])]), Hall(program, [("a", [])])
        one.turn(0)
        self.assertEqual((len(one.arrays()), other.arrays()), (1, []))
