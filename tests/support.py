"""What the tests share: refusals by their very class, and plain models that do what the document says word by word."""

import functools
import re
import unittest

from stemkeep.errors import StemError

NUMBER = re.compile(r"0|-?[1-9][0-9]*", re.ASCII)


class Case(unittest.TestCase):
    """A test case that can ask for a refusal."""

    def refused(self, error, call, *args, **more):
        """Ask for a refusal of the very class, and tell it."""
        with self.assertRaises(StemError) as caught:
            call(*args, **more)
        self.assertIs(type(caught.exception), error)
        return caught.exception


def compare_keys(one, other):
    """Tell -1, 0 or 1 for two keys, as [6] orders them."""
    numbers = [NUMBER.fullmatch(key) is not None for key in (one, other)]
    if numbers == [True, True]:
        pair = (int(one), int(other))
    elif numbers == [False, False]:
        pair = (one, other)
    else:
        pair = (not numbers[0], not numbers[1])
    return (pair[0] > pair[1]) - (pair[0] < pair[1])


def compare_rows(one, other):
    """Tell -1, 0 or 1 for two rows of keys, as [10] walks them."""
    for first, second in zip(one, other):
        if first != second:
            return compare_keys(first, second)
    return (len(one) > len(other)) - (len(one) < len(other))


by_key = functools.cmp_to_key(compare_keys)
by_row = functools.cmp_to_key(compare_rows)


def stems(one, other):
    """Tell whether one is a stem of the other."""
    return one[0] == other[0] and other[1][:len(one[1])] == one[1]


def meeting(one, other):
    """Tell whether two references meet."""
    return stems(one, other) or stems(other, one)


class PlainArrays:
    """Arrays as one dict, asked by looking at all of it."""

    def __init__(self):
        self.worths = {}

    def put(self, ref, worth):
        self.worths[ref] = worth

    def read(self, ref, otherwise=""):
        return self.worths.get(ref, otherwise)

    def data(self, ref):
        beneath = any(stems(ref, node) and node != ref for node in self.worths)
        return int(ref in self.worths) + 10 * beneath

    def kill(self, ref):
        gone = [node for node in self.worths if stems(ref, node)]
        for node in gone:
            del self.worths[node]
        return len(gone)

    def names(self):
        return sorted({node[0] for node in self.worths})

    def count(self):
        return len(self.worths)

    def order(self, ref, back=False):
        name, keys = ref
        head = (name, keys[:-1])
        size = len(keys)
        there = {node[1][size - 1] for node in self.worths if stems(head, node) and len(node[1]) >= size}
        there = sorted(there, key=by_key)
        if keys[-1] != "":
            side = 1 if not back else -1
            there = [key for key in there if compare_keys(key, keys[-1]) == side]
        if not there:
            return ""
        return there[-1] if back else there[0]

    def following(self, ref, back=False):
        side = 1 if not back else -1
        there = [node[1] for node in self.worths if node[0] == ref[0] and compare_rows(node[1], ref[1]) == side]
        there = sorted(there, key=by_row)
        if not there:
            return None
        return (ref[0], there[-1] if back else there[0])

    def rows(self, ref):
        there = sorted([node[1] for node in self.worths if stems(ref, node)], key=by_row)
        return [((ref[0], keys), self.worths[(ref[0], keys)]) for keys in there]


class PlainLocks:
    """Locks as two lists, asked by looking at all of them."""

    def __init__(self):
        self.held = []
        self.queue = []

    def barring(self, job, ref, ahead):
        return sorted({other for other, one in self.held + ahead if other != job and meeting(one, ref)})

    def waiting(self):
        return [job for job, ref in self.queue]

    def lock(self, job, ref):
        own = any(holder == job and stems(one, ref) for holder, one in self.held)
        if self.barring(job, ref, [] if own else self.queue):
            self.queue.append((job, ref))
            return False
        self.held.append((job, ref))
        return True

    def look(self):
        told = []
        for pair in list(self.queue):
            if not self.barring(pair[0], pair[1], self.queue[:self.queue.index(pair)]):
                self.queue.remove(pair)
                self.held.append(pair)
                told.append(pair[0])
        return told

    def free(self, job, ref):
        self.held.remove((job, ref))
        return self.look()

    def free_all(self, job):
        self.held = [pair for pair in self.held if pair[0] != job]
        self.queue = [pair for pair in self.queue if pair[0] != job]
        return self.look()

    def leave(self, job):
        self.queue = [pair for pair in self.queue if pair[0] != job]
        return self.look()

    def holds(self):
        told = {(job, ref): self.held.count((job, ref)) for job, ref in self.held}
        told = [(job, ref, times) for (job, ref), times in told.items()]
        return sorted(told, key=lambda hold: (hold[0], hold[1][0], by_row(hold[1][1])))

    def bars(self, job):
        place = self.waiting().index(job)
        return self.barring(job, self.queue[place][1], self.queue[:place])

    def in_a_ring(self, job):
        """Tell whether a job is reached from itself by who bars whom among those that wait."""
        reached = []
        new = [job]
        while new:
            new = [other for one in new for other in self.bars(one) if other in self.waiting()]
            new = [other for other in sorted(set(new)) if other not in reached]
            reached.extend(new)
        return job in reached


class PlainDealings:
    """Dealings as plain arrays and, for each job, what each reference was and had beneath it ahead of each change."""

    def __init__(self):
        self.plain = PlainArrays()
        self.begun = {}
        self.refs = {}

    def level(self, job):
        return len(self.begun.get(job, []))

    def start(self, job):
        self.begun.setdefault(job, []).append([])

    def keep(self, job):
        done = self.begun[job].pop()
        if self.begun[job]:
            self.begun[job][-1].extend(done)
        self.forget(job)

    def undo(self, job):
        for ref, nodes in reversed(self.begun[job].pop()):
            self.plain.kill(ref)
            self.plain.worths.update(nodes)
        self.forget(job)

    def end(self, job):
        while self.level(job):
            self.undo(job)

    def forget(self, job):
        if not self.level(job):
            self.refs.pop(job, None)

    def touch(self, job, ref):
        if self.level(job):
            self.begun[job][-1].append((ref, dict(self.plain.rows(ref))))
            if ref not in self.refs.setdefault(job, []):
                self.refs[job].append(ref)

    def touched(self, job):
        return list(self.refs.get(job, []))

    def bar(self, job, ref):
        """Tell the (job, reference) that bars a job from a reference, or None."""
        for other in sorted(self.refs):
            for touched in self.refs[other]:
                if other != job and meeting(touched, ref):
                    return (other, touched)
        return None

    def put(self, job, ref, worth):
        self.touch(job, ref)
        self.plain.put(ref, worth)

    def kill(self, job, ref):
        self.touch(job, ref)
        return self.plain.kill(ref)
