"""Programs of rows, and halls in which jobs do them by turns."""

from stemkeep.arrays import Arrays
from stemkeep.checks import need_job
from stemkeep.dealings import Dealings
from stemkeep.errors import NoJob, NoLabel, NoProgram, TooLong
from stemkeep.forms import are_names, fits_deed
from stemkeep.keys import is_name
from stemkeep.locks import Locks
from stemkeep.runs import Run


def is_program(thing):
    """Tell whether a thing is a program: a list of labels, sorted and unlike, with rows of deeds."""
    if not isinstance(thing, list) or not all(_is_label(part) for part in thing):
        return False
    labels = [part[0] for part in thing]
    if labels != sorted(set(labels)):
        return False
    many = {part[0]: len(part[1]) for part in thing}
    return all(_is_row(row, many) for part in thing for row in part[2])


def _is_label(thing):
    """Tell whether a thing is a tuple of a name, a list of unlike names and a list, whatever is in that."""
    if not isinstance(thing, tuple) or len(thing) != 3:
        return False
    label, params, rows = thing
    return is_name(label) and are_names(params) and isinstance(rows, list)


def _is_row(row, many):
    """Tell whether a row is a list of deeds, by a dict of how many params each label has."""
    if not isinstance(row, list):
        return False
    for deed in row:
        if not fits_deed(deed):
            return False
        if deed[0] == "do" and many.get(deed[1]) != len(deed[2]):
            return False
    return True


class Hall:
    """Jobs that do a program by turns, with shared arrays, dealings and locks."""

    def __init__(self, program, jobs, *, rows=None):
        if not is_program(program):
            raise NoProgram()
        self._labels = {label: (tuple(params), _frozen(lines)) for label, params, lines in program}
        for label, worths in jobs:
            self._need_label(label, len(worths))
        self._begun = [(label, list(worths)) for label, worths in jobs]
        self._rows = [] if rows is None else list(rows)
        self._begin()

    def turn(self, job):
        """Let a job do its next deed; tell a word of what came of it."""
        run = self._run(job)
        self._turns.append(job)
        return run.turn()

    def arrays(self):
        """Tell a list of (reference, worth) of the shared nodes, names sorted, walked."""
        return [row for name in self._arrays.names() for row in self._arrays.rows((name, ()))]

    def writings(self, job):
        """Tell a list of the worths that a job wrote."""
        return list(self._run(job).written)

    def fault(self, job):
        """Tell the word with which a job erred, or None."""
        return self._run(job).error

    def is_over(self, job):
        """Tell whether a job is over."""
        return self._run(job).over

    def waiting(self):
        """Tell a list of the jobs, rising, whose last turn waited and that are not over."""
        # A turn in which a job comes to be over is one that did not wait.
        return [job for job, run in enumerate(self._runs) if run.waited]

    def stuck(self):
        """Tell a list of all jobs, rising, that are not over, where none of them could go on; else none."""
        return [] if any(run.could_go() for run in self._runs) else self.left()

    def left(self):
        """Tell a list of the jobs, rising, that are not over."""
        return [job for job, run in enumerate(self._runs) if not run.over]

    def age(self):
        """Tell how many turns have been given."""
        return len(self._turns)

    def go_back(self, age):
        """Make all as it was when so many turns had been given."""
        # What jobs do hangs on nothing but their turns; so they need only be given again.
        turns = self._turns[:age]
        self._begin()
        for job in turns:
            self.turn(job)

    def _begin(self):
        """Begin all jobs anew."""
        self._turns = []
        self._arrays = Arrays()
        for ref, worth in self._rows:
            self._arrays.put(ref, worth)
        dealings = Dealings(self._arrays)
        locks = Locks()
        self._runs = []
        for job, (label, worths) in enumerate(self._begun):
            run = Run(job, self._labels, dealings, locks)
            run.begin(label, worths)
            self._runs.append(run)

    def _need_label(self, label, many):
        """Refuse a label that is not there, or has another number of params."""
        if not isinstance(label, str) or label not in self._labels or len(self._labels[label][0]) != many:
            raise NoLabel(label)

    def _run(self, job):
        """Tell the run of a job; refuse anything that is no job's number."""
        need_job(job)
        if job >= len(self._runs):
            raise NoJob()
        return self._runs[job]


def drive(hall, picks, *, most=5000):
    """Give turns by picks until all jobs are over or stuck; tell the list of the stuck ones."""
    age = hall.age()
    wanted = list(picks) if picks else [0]
    stuck = hall.stuck()
    while hall.left() and not stuck:
        given = hall.age() - age
        if given >= most:
            hall.go_back(age)
            raise TooLong(most)
        left = hall.left()
        hall.turn(left[wanted[given % len(wanted)] % len(left)])
        stuck = hall.stuck()
    return stuck


def _frozen(thing):
    """Tell lists and tuples as tuples throughout, which nobody can change."""
    return tuple([part if isinstance(part, str) else _frozen(part) for part in thing])
