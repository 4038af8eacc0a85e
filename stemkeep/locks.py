"""Locks on stems: who holds which references, who waits for which, and who bars whom."""

from stemkeep.checks import need_job, need_reference
from stemkeep.errors import NoLock, Waiting
from stemkeep.keys import is_stem, meet, row_rank


class Locks:
    """Which jobs hold which references, and which jobs wait; none at first."""

    def __init__(self):
        # By (job, ref), how many times the job holds it.
        self._held = {}
        # The (job, ref) of those that wait, the first one first.
        self._queue = []

    def lock(self, job, ref):
        """Let a job hold a reference once more and tell True, or make it wait for it and tell False."""
        need_job(job)
        need_reference(ref)
        if self._place_of(job) is not None:
            raise Waiting(job)
        if not self.may_hold(job, ref):
            self._queue.append((job, ref))
            return False
        self._take(job, ref)
        return True

    def may_hold(self, job, ref):
        """Tell whether a job that does not wait would hold a reference at once if it asked for it."""
        ahead = [] if self._holds_stem_of(job, ref) else self._queue
        return not self._barring(job, ref, ahead)

    def is_waiting(self, job):
        """Tell whether a job waits."""
        return self._place_of(job) is not None

    def free(self, job, ref):
        """Let go of a reference once; tell the jobs that hold now what they waited for."""
        need_job(job)
        need_reference(ref)
        if (job, ref) not in self._held:
            raise NoLock()
        self._held[(job, ref)] -= 1
        if self._held[(job, ref)] == 0:
            del self._held[(job, ref)]
        return self._let_on()

    def free_all(self, job):
        """Let go of all that a job holds and waits for; tell the jobs that hold now what they waited for."""
        need_job(job)
        self._held = {pair: times for pair, times in self._held.items() if pair[0] != job}
        self._queue = [pair for pair in self._queue if pair[0] != job]
        return self._let_on()

    def leave(self, job):
        """Make a job wait no more; tell the jobs that hold now what they waited for."""
        need_job(job)
        if self._place_of(job) is None:
            raise NoLock()
        self._queue = [pair for pair in self._queue if pair[0] != job]
        return self._let_on()

    def holds(self):
        """Tell a list of (job, ref, times), sorted by jobs, names and rows of keys."""
        return sorted([(job, ref, times) for (job, ref), times in self._held.items()], key=_hold_rank)

    def waits(self):
        """Tell a list of (job, ref) in the order in which they wait."""
        return list(self._queue)

    def bars(self, job):
        """Tell the jobs, rising, that bar a job that waits."""
        need_job(job)
        place = self._place_of(job)
        if place is None:
            raise NoLock()
        return self._barring(job, self._queue[place][1], self._queue[:place])

    def ring(self):
        """Tell a list of jobs that wait, each of which the next one bars, and the last one the first; or None."""
        return _ring_in({pair[0]: self.bars(pair[0]) for pair in self._queue})

    def _place_of(self, job):
        """Tell the place of a job among those that wait, or None where it does not."""
        for place, pair in enumerate(self._queue):
            if pair[0] == job:
                return place
        return None

    def _holds_stem_of(self, job, ref):
        """Tell whether a job holds a stem of a reference."""
        return any(holder == job and is_stem(held, ref) for holder, held in self._held)

    def _barring(self, job, ref, ahead):
        """Tell the other jobs, rising, that hold what meets a reference, or wait for such ahead."""
        pairs = list(self._held) + ahead
        return sorted({other for other, held in pairs if other != job and meet(held, ref)})

    def _take(self, job, ref):
        """Let a job hold a reference once more."""
        self._held[(job, ref)] = self._held.get((job, ref), 0) + 1

    def _let_on(self):
        """Go once through those that wait and let on each that is barred no more; tell their jobs."""
        let_on = []
        still = []
        for job, ref in self._queue:
            if self._barring(job, ref, still):
                still.append((job, ref))
            else:
                self._take(job, ref)
                let_on.append(job)
        self._queue = still
        return let_on


def _hold_rank(hold):
    """Tell what stands for a (job, ref, times) when they are sorted."""
    job, ref, _ = hold
    return (job, ref[0], row_rank(ref[1]))


def _ring_in(barring):
    """Tell a ring of jobs, the least one first, or None, by a dict of who bars each job that waits."""
    knot = _without_ends(barring)
    if not knot:
        return None
    # Each job of the knot is barred by another one of it, so going on must come back somewhere.
    way = []
    job = min(knot)
    while job not in way:
        way.append(job)
        job = knot[job][0]
    ring = way[way.index(job):]
    least = ring.index(min(ring))
    return ring[least:] + ring[:least]


def _without_ends(barring):
    """Tell the dict without jobs that only such bar as are not in it, over and over until none is left."""
    left = barring
    size = -1
    while size != len(left):
        size = len(left)
        left = {job: [other for other in left[job] if other in left] for job in left}
        left = {job: left[job] for job in left if left[job]}
    return left
