"""Runs: what one job does of a program, turn by turn."""

from stemkeep.arrays import Arrays
from stemkeep.errors import Erring, Held, NoDealing, NoLock
from stemkeep.forms import DEEDS
from stemkeep.keys import number_of, number_text
from stemkeep.signs import is_true
from stemkeep.terms import Scene


class Loop:
    """A for that has begun, and not ended: the name it sets, and the spot in its row where its rest begins."""

    def __init__(self, name, stride, limit, spot):
        self.name = name
        self.now = 0
        self.stride = stride
        self.limit = limit
        self.spot = spot

    def is_beyond(self, number):
        """Tell whether a number is beyond the last one, by the direction of the step."""
        if self.stride == 0:
            return False
        return number > self.limit if self.stride > 0 else number < self.limit


class Frame:
    """A label that a job does: the spot of its next deed, and what comes back when the label is over."""

    def __init__(self, lines):
        self._lines = lines
        self._line = 0
        self.spot = 0
        # The loops of the row that is done now, the innermost one last.
        self.loops = []
        # Names and their own arrays (as trees), in the order in which they were put aside.
        self.aside = []

    def is_at_end(self):
        """Tell whether there is no deed left in the row, or no row left."""
        return self._line >= len(self._lines) or self.spot >= len(self._lines[self._line])

    def deed(self):
        """Tell the next deed of the row."""
        return self._lines[self._line][self.spot]

    def pass_over(self):
        """Pass over the rest of the row."""
        self.spot = len(self._lines[self._line])

    def begin_row(self):
        """Go on to the next row; tell whether there is one."""
        self._line += 1
        self.spot = 0
        return self._line < len(self._lines)


class Run:
    """A job: where it stands in its program, its own arrays, and what it wrote."""

    def __init__(self, job, labels, dealings, locks):
        self._job = job
        self._labels = labels
        self._dealings = dealings
        self._locks = locks
        self._own = Arrays()
        self._scene = Scene(self._own, dealings, job)
        # The labels that it does, the innermost one last.
        self._frames = []
        self._test = False
        # Whether it asked for a lock and has not yet gone on with it.
        self._asked = False
        self.written = []
        self.error = None
        self.waited = False
        self.over = False
        self._actions = {
            "set": self._set, "kill": self._kill, "write": self._write, "if": self._if, "else": self._else,
            "for": self._for, "do": self._enter, "quit": self._leave, "new": self._put_aside, "lock": self._lock,
            "free": self._free, "free_all": self._free_all, "start": self._start, "keep": self._keep,
            "undo": self._undo, "halt": self._finish,
        }

    def begin(self, label, worths):
        """Begin with a label, its params set to worths."""
        self._enter(label, worths)
        self._settle()

    def turn(self):
        """Do the next deed; tell a word of what came of it."""
        if self.over:
            return "idle"
        word = self._go_on()
        self.waited = word == "waits"
        return word

    def could_go(self):
        """Tell whether the next turn would do a step, or err; do nothing of it."""
        if self.over:
            return False
        if self._asked:
            return not self._locks.is_waiting(self._job)
        frame = self._frames[-1]
        return frame.is_at_end() or self._could_do(frame.deed())

    def _could_do(self, deed):
        """Tell whether a deed would be done, or would err."""
        ahead = self._scene.last()
        try:
            told = self._reckoned(deed)
        except Held:
            return False
        except Erring:
            return True
        self._scene.recall(ahead)
        return deed[0] != "lock" or self._locks.may_hold(self._job, told[0][1])

    def _go_on(self):
        """Do the next deed, or wait; tell the word."""
        if not self._asked:
            word = self._do_next()
            if word != "":
                return word
        elif self._locks.is_waiting(self._job):
            return "waits"
        self._asked = False
        self._settle()
        return "over" if self.over else "step"

    def _do_next(self):
        """Do the next deed, or begin a round; tell the word where the job does not go on behind it."""
        frame = self._frames[-1]
        if frame.is_at_end():
            self._begin_round(frame)
            return ""
        deed = frame.deed()
        try:
            told = self._reckoned(deed)
        except Held:
            return "waits"
        except Erring as why:
            self._fail(why.word)
            return "errs"
        frame.spot += 1
        action = self._actions[deed[0]]
        action(*told)
        if self.error is not None:
            return "errs"
        return "waits" if self._asked else ""

    def _reckoned(self, deed):
        """Tell what a deed goes by; where it errs or is held, the last reference is as it was ahead."""
        ahead = self._scene.last()
        try:
            return self._reckoned_parts(deed)
        except (Erring, Held):
            self._scene.recall(ahead)
            raise

    def _reckoned_parts(self, deed):
        """Tell a list of its places, worths and names; Held goes up where what it changes is held."""
        told = []
        for kind, part in zip(DEEDS[deed[0]], deed[1:]):
            if kind == "one":
                told.append(self._scene.reckon(part))
            elif kind == "parts":
                told.append([self._scene.reckon(one) for one in part])
            elif kind in ("place", "shared place"):
                told.append(self._scene.place(part))
            else:
                told.append(part)
        if deed[0] in ("set", "kill") and not told[0][0]:
            # Data is held where a change is held; so nothing is begun that could not be done.
            self._dealings.data(self._job, told[0][1])
        return told

    def _settle(self):
        """Go past the ends of rows and labels, which are no turns."""
        while self._frames:
            frame = self._frames[-1]
            if frame.loops or not frame.is_at_end():
                return
            if not frame.begin_row():
                self._leave_label()
        self._finish()

    def _leave_label(self):
        """End the innermost label: what was put aside in it comes back, the last one first."""
        frame = self._frames.pop()
        for name, gone in reversed(frame.aside):
            self._own.uproot((name, ()))
            self._own.graft((name, ()), gone)

    def _finish(self):
        """End the job: it undoes all that it has begun, and frees all its locks."""
        self._frames = []
        self.over = True
        self._dealings.end(self._job)
        self._locks.free_all(self._job)

    def _fail(self, word):
        """End the job with the word of what errs."""
        self.error = word
        self._finish()

    def _begin_round(self, frame):
        """Set the name of the innermost loop one step on, or end the loop where that is beyond."""
        loop = frame.loops[-1]
        number = loop.now + loop.stride
        if loop.is_beyond(number):
            frame.loops.pop()
        else:
            self._begin_rest(frame, loop, number)

    def _begin_rest(self, frame, loop, number):
        """Set the name of a loop, and go to the beginning of its rest."""
        loop.now = number
        frame.spot = loop.spot
        self._own.put((loop.name, ()), number_text(number))

    def _set(self, place, worth):
        is_own, ref = place
        if is_own:
            self._own.put(ref, worth)
        else:
            self._dealings.put(self._job, ref, worth)

    def _kill(self, place):
        is_own, ref = place
        if is_own:
            self._own.kill(ref)
        else:
            self._dealings.kill(self._job, ref)

    def _write(self, worth):
        self.written.append(worth)

    def _if(self, worth):
        self._test = is_true(worth)
        if not self._test:
            self._frames[-1].pass_over()

    def _else(self):
        if self._test:
            self._frames[-1].pass_over()

    def _for(self, name, first, step, last):
        frame = self._frames[-1]
        loop = Loop(name, number_of(step), number_of(last), frame.spot)
        number = number_of(first)
        if loop.is_beyond(number):
            frame.pass_over()
        else:
            frame.loops.append(loop)
            self._begin_rest(frame, loop, number)

    def _enter(self, label, worths):
        """Do a label: its params are new ones, with the worths."""
        params, lines = self._labels[label]
        self._frames.append(Frame(lines))
        self._put_aside(params)
        for param, worth in zip(params, worths):
            self._own.put((param, ()), worth)

    def _put_aside(self, names):
        """Make the arrays of such names empty until the innermost label is over."""
        for name in names:
            self._frames[-1].aside.append((name, self._own.uproot((name, ()))))

    def _leave(self):
        """End the innermost loop, and the row or the round around it; or the label, where no loop has begun."""
        frame = self._frames[-1]
        if frame.loops:
            frame.loops.pop()
            frame.pass_over()
        else:
            self._leave_label()

    def _lock(self, place):
        self._asked = not self._locks.lock(self._job, place[1])

    def _free(self, place):
        try:
            self._locks.free(self._job, place[1])
        except NoLock:
            self._fail("free")

    def _free_all(self):
        self._locks.free_all(self._job)

    def _start(self):
        self._dealings.start(self._job)

    def _keep(self):
        try:
            self._dealings.keep(self._job)
        except NoDealing:
            self._fail("level")

    def _undo(self):
        try:
            self._dealings.undo(self._job)
        except NoDealing:
            self._fail("level")
