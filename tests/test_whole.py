"""[4]: the promise of the whole, sentence by sentence."""

import itertools
import random

from stemkeep.arrays import Arrays, Desk, long
from stemkeep.dealings import Dealings
from stemkeep.errors import Erring, Held
from stemkeep.jobs import Hall, drive, is_program
from stemkeep.keys import before, in_order
from stemkeep.locks import Locks
from stemkeep.terms import Scene
from stemkeep.texts import read_arrays, read_expression, read_program, show_arrays, show_expression, show_program
from tests.plainjob import random_job
from tests.support import Case, by_key, by_row, meeting
from tests.test_terms import TestAsTheDocumentSays, at, is_, short, var

KEYS = ["1", "2", "10", "-1", "01", "-", "a", "ab", "b", " "]


def random_rows(dice, many, names="ab"):
    """Tell many nodes with worths, as a hall is given them."""
    refs = {(dice.choice(names), tuple(dice.choice(KEYS) for _ in range(dice.randint(0, 3)))) for _ in range(many)}
    return [(ref, dice.choice(["", "1", "w"])) for ref in sorted(refs)]


def arrays_of(rows):
    arrays = Arrays()
    for ref, worth in rows:
        arrays.put(ref, worth)
    return arrays


def random_picks(dice):
    return [dice.randint(-99, 99) for _ in range(400)]


class TestOrderOfKeys(Case):

    def test_keys_have_one_order(self):
        for one, other, third in itertools.product(KEYS, repeat=3):
            self.assertEqual(before(one, other) + before(other, one), one != other)
            if before(one, other) and before(other, third):
                self.assertTrue(before(one, third))
        self.assertEqual(in_order(KEYS), sorted(KEYS, key=by_key))

    def test_next_and_back_agree_and_each_node_is_walked_once(self):
        for seed in range(30):
            dice = random.Random(seed)
            rows = random_rows(dice, 40)
            arrays = arrays_of(rows)
            scene = Scene(arrays, Dealings(arrays))
            for name in "ab":
                walked = [] if arrays.data((name, ())) % 2 == 0 else [(name, ())]
                ref = arrays.following((name, ()))
                while ref is not None:
                    self.assertEqual(arrays.following(ref, back=True), walked[-1] if walked else None)
                    walked.append(ref)
                    ref = arrays.following(ref)
                nodes = [(name, keys) for keys in sorted([ref[1] for ref, _ in rows if ref[0] == name], key=by_row)]
                self.assertEqual(walked, nodes)
                for make in (var, at):
                    told, key = [], scene.reckon(("order", make(name, "")))
                    while key != "":
                        back = scene.reckon(("back", make(name, key)))
                        self.assertEqual(back, told[-1] if told else "")
                        told.append(key)
                        key = scene.reckon(("order", make(name, key)))
                    self.assertEqual(told, sorted({keys[0] for _, keys in nodes if keys}, key=by_key))


class TestShortReferences(Case):

    def test_a_short_one_is_the_long_one(self):
        for seed in range(40):
            dice = random.Random(seed)
            arrays = arrays_of(random_rows(dice, 40))
            scene, desk = Scene(Arrays(), Dealings(arrays)), Desk(arrays)
            for _ in range(40):
                keys = [dice.choice(KEYS) for _ in range(dice.randint(1, 2))]
                last = scene.last()
                if last is None or len(last[1]) > 3 or dice.random() < 0.2:
                    self.assertEqual(scene.place(at("a", *keys)), (False, ("a", tuple(keys))))
                    desk.data(("a", tuple(keys)))
                    continue
                meant = long(last, tuple(keys))
                told = scene.reckon(("other", short(*keys), is_("none")))
                self.assertEqual(told, desk.read(("", tuple(keys)), otherwise="none"))
                self.assertEqual(told, arrays.read(meant, otherwise="none"))
                self.assertEqual((scene.last(), desk.last()), (meant, meant))


class TestLocksOfTheWhole(Case):

    def test_no_two_jobs_hold_stems_that_meet_and_none_waits_for_nothing(self):
        refs = [(name, keys) for name in "ab" for keys in ((), ("1",), ("2",), ("1", "x"))]
        for seed in range(60):
            dice = random.Random(seed)
            locks = Locks()
            for _ in range(60):
                job, ref = dice.randint(0, 4), dice.choice(refs)
                if not any(other == job for other, _ in locks.waits()) and dice.random() < 0.7:
                    locks.lock(job, ref)
                else:
                    locks.free_all(job)
                for one, other in itertools.combinations(locks.holds(), 2):
                    self.assertTrue(one[0] == other[0] or not meeting(one[1], other[1]))
                for job, _ in locks.waits():
                    self.assertNotEqual(locks.bars(job), [])

    def test_locks_keep_jobs_apart(self):
        text = "a|  for i=1:1:5; do b|b|  lock ^n(1); set n=^n(1)|  if n#2; lock ^n(1,2)|  set ^n(1)=n+1; free|"
        program = read_program(text)
        for seed in range(40):
            hall = Hall(program, [("a", [])] * 4, rows=[(("n", ("1",)), "0")])
            self.assertEqual(drive(hall, random_picks(random.Random(seed))), [])
            self.assertEqual(hall.arrays(), [(("n", ("1",)), "20")])

    def test_those_that_asked_first_go_on_first(self):
        program = read_program("a|  lock ^x; if 1; free|b(n,k)|  lock ^x(k); set ^order=^order_n; free ^x(k)|")
        rows = [(("order", ()), "")]
        for jobs in itertools.permutations(range(1, 5)):
            for keys in (["1"] * 4, ["1", "2", "1", "1"]):
                hall = Hall(program, [("a", [])] + [("b", [str(job), keys[job - 1]]) for job in range(1, 5)], rows=rows)
                hall.turn(0)
                self.assertEqual([hall.turn(job) for job in jobs], ["waits"] * 4)
                self.assertEqual(drive(hall, random_picks(random.Random(5))), [])
                told = [job for job in hall.arrays()[0][1] if keys[int(job) - 1] == "1"]
                self.assertEqual(told, [str(job) for job in jobs if keys[job - 1] == "1"])

    def test_rings_are_told_and_where_none_can_go_on(self):
        for size in range(2, 10):
            text = "".join(f"{label}|  lock ^{label}; lock ^{other}|" for label, other in
                           zip("abcdefghi"[:size], ("abcdefghi"[:size] + "a")[1:]))
            program = read_program(text)
            hall = Hall(program, [(label, []) for label in "abcdefghi"[:size]])
            self.assertEqual(hall.stuck(), [])
            self.assertEqual(drive(hall, list(range(size)), most=size), list(range(size)))
            locks = Locks()
            for job in range(size):
                locks.lock(job, ("abcdefghi"[job], ()))
            for job in range(size):
                self.assertIsNone(locks.ring())
                locks.lock(job, ("abcdefghi"[(job + 1) % size], ()))
            self.assertEqual(locks.ring(), list(range(size)))


class TestDealingsOfTheWhole(Case):

    def test_kept_or_undone_whole(self):
        ends = {"keep": "1", "undo": "0", "halt": "0", "write none": "0", "if 1": "0"}
        for end, other_end in itertools.product(ends, ends):
            text = "".join(f"{label}|  start; set ^x(2,{name})=1; kill ^x(2,0,{name}); set ^x({name})=1; {end}|"
                           for label, name, end in (("a", 5, end), ("b", 7, other_end)))
            rows = [(("x", ("2", "0", key)), "1") for key in ("5", "7")]
            program = read_program(text)
            for picks in itertools.product((0, 1), repeat=5):
                hall = Hall(program, [("a", []), ("b", [])], rows=rows)
                self.assertEqual(drive(hall, list(picks)), [])
                told = [ref for ref, _ in hall.arrays()]
                for word, key in ((end, "5"), (other_end, "7")):
                    done = [("x", (key,)) in told, ("x", ("2", key)) in told, ("x", ("2", "0", key)) not in told]
                    self.assertEqual(done, [ends[word] == "1"] * 3)

    def test_no_job_reads_what_is_undone_later(self):
        refs = [(name, keys) for name in "ab" for keys in ((), ("1",), ("2",), ("1", "x"), ("2", "y"))]
        undone = 0
        for seed in range(80):
            dice = random.Random(seed)
            dealings = Dealings(Arrays())
            put, read = {}, {}
            for number in range(150):
                job, ref = dice.randint(0, 3), dice.choice(refs)
                word = dice.choice(["start", "keep", "undo", "end", "put", "put", "put", "read", "read", "read"])
                if word == "start":
                    dealings.start(job)
                    put.setdefault(job, []).append([])
                elif word == "keep" and dealings.level(job):
                    dealings.keep(job)
                    done = put[job].pop()
                    if put[job]:
                        put[job][-1].extend(done)
                elif word == "end" or (word == "undo" and dealings.level(job)):
                    for _ in range(dealings.level(job) if word == "end" else 1):
                        dealings.undo(job)
                        done = put[job].pop()
                        undone += len(done)
                        for worth in done:
                            self.assertLessEqual(read.get(worth, set()), {job})
                elif word in ("put", "read"):
                    try:
                        if word == "read":
                            read.setdefault(dealings.read(job, ref), set()).add(job)
                        else:
                            dealings.put(job, ref, str(number))
                            if dealings.level(job):
                                put[job][-1].append(str(number))
                    except Held:
                        pass
        self.assertGreater(undone, 300)


class TestJobsApart(Case):
    """Jobs whose stems never meet end, in any turns, as one done behind the other."""

    def deed(self, dice, job):
        ref = f"^{dice.choice('xy')}({job},{dice.choice(['1', '2', '1,3'])})"
        return dice.choice([
            f"set {ref}={dice.randint(0, 9)}", f"set {ref}=$other({ref},0)+1", f"kill {ref}", f"write $other({ref},7)",
            f"write $data({ref})", f"write $order({ref})", f"write $back({ref})", f"lock {ref}", "free", "start",
                            "start",
            "keep", "undo", f"if $data({ref})", "else", f"for i=1:1:{dice.randint(1, 3)}", "do d", "quit",
                            f"lock ^x({job})",
            f"set ^(4)={dice.randint(0, 9)}", "write $other(^(1),8)", f"set n={ref}",
        ])

    def program(self, dice):
        rows = {job: [[self.deed(dice, job) for _ in range(dice.randint(1, 5))] for _ in range(5)] for job in range(3)}
        text = "".join("abc"[job] + "|" + "".join("  " + "; ".join(row) + "|" for row in rows[job]) for job in range(3))
        return read_program(text + "d|  if 1|  write $other(^(2),5)|")

    def told(self, hall):
        return (hall.arrays(), [(hall.writings(job), hall.fault(job), hall.is_over(job)) for job in range(3)])

    def test_in_any_turns(self):
        longest = 0
        for seed in range(150):
            dice = random.Random(seed)
            program, jobs = self.program(dice), [("a", []), ("b", []), ("c", [])]
            rows = [((name, (str(job), key)), "1") for name in "xy" for job in range(3) for key in "12"]
            told = []
            for order in itertools.permutations(range(3)):
                hall = Hall(program, jobs, rows=rows)
                for job in order:
                    while not hall.is_over(job):
                        self.assertNotEqual(hall.turn(job), "waits")
                told.append(self.told(hall))
            for _ in range(6):
                hall = Hall(program, jobs, rows=rows)
                self.assertEqual(drive(hall, random_picks(dice)), [])
                told.append(self.told(hall))
            for one in told[1:]:
                self.assertEqual(one, told[0])
            longest = max(longest, len(told[0][1][0][0]))
        self.assertGreater(longest, 5)


class TestAllIsWritten(Case):

    def test_arrays(self):
        for seed in range(60):
            arrays = arrays_of(random_rows(random.Random(seed), 50, ["a", "ab", "b"]))
            texts = show_arrays(arrays)
            told = read_arrays(texts)
            self.assertEqual([told.rows((name, ())) for name in told.names()],
                             [arrays.rows((name, ())) for name in arrays.names()])
            self.assertEqual(show_arrays(told), texts)

    def test_expressions(self):
        make = TestAsTheDocumentSays("test_random_expressions")
        for seed in range(600):
            expression = make.expression(random.Random(seed), 5)
            text = show_expression(expression)
            self.assertEqual(read_expression(text), expression)
            self.assertEqual(show_expression(read_expression(text)), text)

    def test_what_is_read_back_is_reckoned_alike(self):
        make = TestAsTheDocumentSays("test_random_expressions")
        arrays = arrays_of(random_rows(random.Random(1), 60))
        for seed in range(600):
            expression = make.expression(random.Random(seed), 4)
            told = []
            for one in (expression, read_expression(show_expression(expression))):
                scene = Scene(arrays, Dealings(arrays))
                try:
                    told.append((scene.reckon(one), scene.last()))
                except Erring as error:
                    told.append((error.word, scene.last()))
            self.assertEqual(told[0], told[1])

    def test_programs(self):
        for seed in range(300):
            program = random_job(random.Random(seed))
            text = show_program(program)
            self.assertIs(is_program(program), True)
            self.assertEqual(read_program(text), program)
            self.assertEqual(show_program(read_program(text)), text)

    def test_what_a_hall_tells_may_be_handed_in(self):
        hall = Hall(read_program("a|  for i=1:1:30; set ^x(i,i#3)=i; set ^y=i|"), [("a", [])])
        drive(hall, [])
        rows = hall.arrays()
        self.assertEqual(Hall([], [], rows=rows).arrays(), rows)
        texts = show_arrays(arrays_of(rows))
        self.assertEqual(show_arrays(read_arrays(texts)), texts)
