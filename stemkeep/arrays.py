"""Arrays: worths at nodes, which are walked in the order of their keys; and desks, which know short references."""

from stemkeep.checks import need_asking_reference, need_reference, need_worth
from stemkeep.errors import NoHead, NoRef, TooDeep, Within
from stemkeep.keys import MOST_KEYS, is_asking_reference, is_asking_row, is_pair, is_reference, meet
from stemkeep.tree import Tree


class Arrays:
    """Nodes, references with worths; none at first."""

    def __init__(self):
        # The names are the keys at the top of the tree: they have letters alone, so that the order of keys sorts them.
        self._tree = Tree()

    def put(self, ref, worth):
        """Give a node its worth."""
        need_reference(ref)
        need_worth(worth)
        self._tree.plant(_path(ref), worth)

    def read(self, ref, *, otherwise=""):
        """Tell a node's worth, or what is told otherwise."""
        need_reference(ref)
        place = self._tree.at(_path(ref))
        if place is None or place.worth is None:
            return otherwise
        return place.worth

    def data(self, ref):
        """Tell 1 where the node has a worth, and 10 more where there are worths beneath it."""
        need_reference(ref)
        place = self._tree.at(_path(ref))
        if place is None:
            return 0
        return (0 if place.worth is None else 1) + (10 if place.row else 0)

    def kill(self, ref):
        """Take away a node's worth and all beneath; tell how many worths went."""
        need_reference(ref)
        gone = self.uproot(ref)
        return 0 if gone is None else len(gone.walked(()))

    def names(self):
        """Tell a list of the names of nodes, sorted."""
        return list(self._tree.row)

    def count(self):
        """Tell how many nodes there are."""
        return len(self._tree.walked(()))

    def order(self, ref, *, back=False):
        """Tell the next key with data behind a reference's last one, or ahead of it, behind the same head."""
        need_asking_reference(ref)
        path = _path(ref)
        head = self._tree.at(path[:-1])
        return "" if head is None else head.next_key(path[-1], back)

    def following(self, ref, *, back=False):
        """Tell the node of its name that is walked next behind a reference, or ahead of it, or None."""
        need_reference(ref)
        path = _path(ref)
        found = self._tree.path_ahead(path) if back else self._tree.path_behind(path)
        return None if found is None else _reference(found)

    def rows(self, ref):
        """Tell a list of (reference, worth) of the nodes of which a reference is a stem, as they are walked."""
        need_reference(ref)
        path = _path(ref)
        place = self._tree.at(path)
        if place is None:
            return []
        return [(_reference(found), worth) for found, worth in place.walked(path)]

    def merge(self, to, source):
        """Put the worths of source and beneath it to the same keys behind another reference; tell how many."""
        need_reference(to)
        need_reference(source)
        if meet(to, source):
            raise Within()
        given = []
        for ref, worth in self.rows(source):
            keys = to[1] + ref[1][len(source[1]):]
            if len(keys) > MOST_KEYS:
                raise TooDeep()
            given.append(((to[0], keys), worth))
        for ref, worth in given:
            self.put(ref, worth)
        return len(given)

    def uproot(self, ref):
        """Take away a node and all beneath it; tell it as the tree that graft takes back, or None."""
        path = _path(ref)
        place = self._tree.at(path)
        if place is not None:
            self._tree.cut(path)
        return place

    def graft(self, ref, gone):
        """Give back what uproot told of a reference where nothing has been put meanwhile, or is there no more."""
        if gone is not None:
            self._tree.graft(_path(ref), gone)

    def bare(self, ref):
        """Take away the worth alone of a node."""
        self._tree.bare(_path(ref))


class Desk:
    """Arrays asked by references or by short ones, which mean the head of the last one that was asked for."""

    def __init__(self, arrays):
        self._arrays = arrays
        self._last = None

    def put(self, ref, worth):
        """Give a node its worth."""
        asked = self._meant(ref)
        self._arrays.put(asked, worth)
        self._remember(asked)

    def read(self, ref, *, otherwise=""):
        """Tell a node's worth, or what is told otherwise."""
        asked = self._meant(ref)
        self._remember(asked)
        return self._arrays.read(asked, otherwise=otherwise)

    def data(self, ref):
        """Tell 1 where the node has a worth, and 10 more where there are worths beneath it."""
        asked = self._meant(ref)
        self._remember(asked)
        return self._arrays.data(asked)

    def kill(self, ref):
        """Take away a node's worth and all beneath; tell how many worths went."""
        asked = self._meant(ref)
        self._remember(asked)
        return self._arrays.kill(asked)

    def order(self, ref, *, back=False):
        """Tell the next key with data behind a reference's last one, or ahead of it, behind the same head."""
        asked = self._meant_asking(ref)
        self._remember(asked)
        return self._arrays.order(asked, back=back)

    def following(self, ref, *, back=False):
        """Tell the node of its name that is walked next behind a reference, or ahead of it, or None."""
        asked = self._meant(ref)
        self._remember(asked)
        return self._arrays.following(asked, back=back)

    def last(self):
        """Tell the last reference that was asked for, long; None where there is none, or it has no keys."""
        return self._last

    def _meant(self, ref):
        """Tell the long reference of a reference or a short one; refuse anything else."""
        if _is_short(ref) and ref[1][-1] != "":
            return long(self._last, ref[1])
        if not is_reference(ref):
            raise NoRef()
        return ref

    def _meant_asking(self, ref):
        """Tell the long one likewise, where there is a key and the last one may also be the empty text."""
        if _is_short(ref):
            return long(self._last, ref[1])
        if not is_asking_reference(ref):
            raise NoRef()
        return ref

    def _remember(self, asked):
        """Make the one that was asked for the last one."""
        self._last = asked if asked[1] else None


def long(last, keys):
    """Tell the reference that a short one means: the head of the last one, and the keys behind it."""
    if last is None or not last[1]:
        raise NoHead()
    meant = last[1][:-1] + keys
    if len(meant) > MOST_KEYS:
        raise TooDeep()
    return (last[0], meant)


def _is_short(thing):
    """Tell whether a thing is a short reference, the last key of which may also be the empty text."""
    return is_pair(thing) and isinstance(thing[0], str) and thing[0] == "" and is_asking_row(thing[1])


def _path(ref):
    """Tell the path of a reference in the tree."""
    return (ref[0],) + ref[1]


def _reference(path):
    """Tell the reference that has a path in the tree."""
    return (path[0], path[1:])
