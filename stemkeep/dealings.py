"""Dealings: changes of arrays that can be undone, by jobs that may not see what others have not ended."""

from stemkeep.checks import need_asking_reference, need_job, need_reference, need_worth
from stemkeep.errors import Held, NoDealing
from stemkeep.keys import stems_of


class Dealings:
    """What jobs have begun to do to arrays, and not ended."""

    def __init__(self, arrays):
        self._arrays = arrays
        # By jobs whose level is 1 at least, what they have begun.
        self._begun = {}

    def start(self, job):
        """Begin a dealing, within the one that the job has begun, if any."""
        need_job(job)
        if job not in self._begun:
            self._begun[job] = Begun()
        begun = self._begun[job]
        begun.marks.append(len(begun.changes))

    def level(self, job):
        """Tell how many dealings a job has begun and not ended."""
        need_job(job)
        return len(self._begun[job].marks) if job in self._begun else 0

    def keep(self, job):
        """End the last dealing of a job; what it did is the one's around it, or stays."""
        begun = self._needed(job)
        begun.marks.pop()
        self._drop_ended(job)

    def undo(self, job):
        """End the last dealing of a job; all that was done in it is as it was ahead of it."""
        begun = self._needed(job)
        mark = begun.marks.pop()
        while len(begun.changes) > mark:
            _take_back(self._arrays, begun.changes.pop())
        self._drop_ended(job)

    def end(self, job):
        """Undo all dealings that a job has begun."""
        for _ in range(self.level(job)):
            self.undo(job)

    def put(self, job, ref, worth):
        """Give a node its worth."""
        need_job(job)
        need_reference(ref)
        need_worth(worth)
        self._need_unheld(job, ref)
        if job in self._begun:
            was = self._arrays.read(ref, otherwise=None)
            self._begun[job].changed(ref, ("put", ref, was))
        self._arrays.put(ref, worth)

    def kill(self, job, ref):
        """Take away a node's worth and all beneath; tell how many worths went."""
        need_job(job)
        need_reference(ref)
        self._need_unheld(job, ref)
        gone = self._arrays.uproot(ref)
        if job in self._begun:
            self._begun[job].changed(ref, ("kill", ref, gone))
        return 0 if gone is None else len(gone.walked(()))

    def read(self, job, ref, *, otherwise=""):
        """Tell a node's worth, or what is told otherwise."""
        need_job(job)
        need_reference(ref)
        self._need_unheld(job, ref)
        return self._arrays.read(ref, otherwise=otherwise)

    def data(self, job, ref):
        """Tell 1 where the node has a worth, and 10 more where there are worths beneath it."""
        need_job(job)
        need_reference(ref)
        self._need_unheld(job, ref)
        return self._arrays.data(ref)

    def order(self, job, ref, *, back=False):
        """Tell the next key with data behind a reference's last one, or ahead of it, behind the same head."""
        need_job(job)
        need_asking_reference(ref)
        self._need_unheld(job, (ref[0], ref[1][:-1]))
        return self._arrays.order(ref, back=back)

    def touched(self, job):
        """Tell a list of the references that a job touches, in the order in which it first did."""
        need_job(job)
        return list(self._begun[job].refs) if job in self._begun else []

    def _needed(self, job):
        """Tell what a job has begun; refuse where it is at level 0."""
        need_job(job)
        if job not in self._begun:
            raise NoDealing()
        return self._begun[job]

    def _drop_ended(self, job):
        """Touch nothing any more where all dealings of a job are ended."""
        if not self._begun[job].marks:
            del self._begun[job]

    def _need_unheld(self, job, ref):
        """Refuse where another job touches a reference that meets this one."""
        for other in sorted(self._begun):
            met = None if other == job else self._begun[other].first_met(ref)
            if met is not None:
                raise Held(other, met)


class Begun:
    """The dealings that one job has begun and not ended, and what it touches."""

    def __init__(self):
        # All changes, the first one first; and for each dealing how many there were when it began.
        self.changes = []
        self.marks = []
        # The references that it touches, in the order in which it first did; places are places in this list.
        self.refs = []
        self._places = {}
        # By each stem of what it touches, the place of the first such; so a long list need not be gone through.
        self._firsts = {}

    def changed(self, ref, change):
        """Touch a reference, and remember how to take back what is done to it."""
        self.changes.append(change)
        if ref in self._places:
            return
        place = len(self.refs)
        self.refs.append(ref)
        self._places[ref] = place
        for stem in stems_of(ref):
            self._firsts.setdefault(stem, place)

    def first_met(self, ref):
        """Tell the first reference touched that meets one, or None."""
        places = [self._places[stem] for stem in stems_of(ref) if stem in self._places]
        if ref in self._firsts:
            places.append(self._firsts[ref])
        return self.refs[min(places)] if places else None


def _take_back(arrays, change):
    """Make a reference what it was ahead of a change, the last one that is left of those done."""
    word, ref, was = change
    if word == "kill":
        arrays.graft(ref, was)
    elif was is None:
        arrays.bare(ref)
    else:
        arrays.put(ref, was)
