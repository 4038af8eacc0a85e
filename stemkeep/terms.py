"""Expressions, and scenes in which they are reckoned."""

from stemkeep.arrays import long
from stemkeep.errors import Erring, Held, NoHead, TooDeep
from stemkeep.forms import fits_expression
from stemkeep.keys import MOST_KEYS, is_asking_row, is_row, number_of, number_text
from stemkeep.signs import is_true, part_of, piece_of, told_by, truth_text

_LONGEST_WORTH = 2000


def is_expression(thing):
    """Tell whether a thing is an expression."""
    return fits_expression(thing)


class Scene:
    """What expressions of one job go by: its own arrays, the shared ones, and its last reference."""

    def __init__(self, own, dealings, job=0):
        self._own = own
        self._dealings = dealings
        self._job = job
        self._last = None
        self._ways = {
            "is": self._is, "var": self._node, "at": self._node, "short": self._node, "op": self._op,
            "not": self._not, "minus": self._minus, "length": self._length, "piece": self._piece, "part": self._part,
            "order": self._next_key, "back": self._next_key, "data": self._data, "other": self._other,
        }

    def reckon(self, expression):
        """Tell the worth of an expression."""
        ahead = self._last
        try:
            return self._worth_of(expression)
        except (Erring, Held):
            self._last = ahead
            raise

    def place(self, expression, *, empty=False):
        """Tell whether a place is of the job's own arrays, and its reference; the last key may be let be empty."""
        ahead = self._last
        try:
            return self._place_of(expression, empty)
        except (Erring, Held):
            self._last = ahead
            raise

    def last(self):
        """Tell the reference of the last at or short place; None where there is none, or it has no keys."""
        return self._last

    def recall(self, ref):
        """Make a reference, or None, the last one."""
        self._last = ref

    def _worth_of(self, expression):
        """Tell the worth of an expression; where it errs the last reference is left wherever that was."""
        way = self._ways[expression[0]]
        worth = way(expression)
        if len(worth) > _LONGEST_WORTH:
            raise Erring("long")
        return worth

    def _number_of(self, expression):
        """Tell the number of an expression's worth."""
        return number_of(self._worth_of(expression))

    def _place_of(self, place, empty):
        """Tell a place likewise."""
        keys = tuple([self._worth_of(part) for part in place[-1]])
        ref = self._long(keys) if place[0] == "short" else (place[1], keys)
        if len(keys) > MOST_KEYS:
            raise Erring("deep")
        if not is_row(keys) and not (empty and is_asking_row(keys)):
            raise Erring("key")
        if place[0] == "var":
            return (True, ref)
        self._last = ref if ref[1] else None
        return (False, ref)

    def _long(self, keys):
        """Tell the reference that a short one means."""
        try:
            return long(self._last, keys)
        except NoHead:
            raise Erring("head")
        except TooDeep:
            raise Erring("deep")

    def _read(self, place):
        """Tell the worth at a place, or None."""
        is_own, ref = self._place_of(place, False)
        if is_own:
            return self._own.read(ref, otherwise=None)
        return self._dealings.read(self._job, ref, otherwise=None)

    def _is(self, expression):
        return expression[1]

    def _node(self, expression):
        worth = self._read(expression)
        if worth is None:
            raise Erring("missing")
        return worth

    def _op(self, expression):
        _, sign, one, other = expression
        first = self._worth_of(one)
        return told_by(sign, first, self._worth_of(other))

    def _not(self, expression):
        return truth_text(not is_true(self._worth_of(expression[1])))

    def _minus(self, expression):
        return number_text(-self._number_of(expression[1]))

    def _length(self, expression):
        return number_text(len(self._worth_of(expression[1])))

    def _piece(self, expression):
        one = self._worth_of(expression[1])
        other = self._worth_of(expression[2])
        return piece_of(one, other, self._number_of(expression[3]))

    def _part(self, expression):
        one = self._worth_of(expression[1])
        first = self._number_of(expression[2])
        return part_of(one, first, self._number_of(expression[3]))

    def _next_key(self, expression):
        word, place = expression
        if not place[-1]:
            raise Erring("key")
        is_own, ref = self._place_of(place, True)
        if is_own:
            return self._own.order(ref, back=word == "back")
        return self._dealings.order(self._job, ref, back=word == "back")

    def _data(self, expression):
        is_own, ref = self._place_of(expression[1], False)
        return number_text(self._own.data(ref) if is_own else self._dealings.data(self._job, ref))

    def _other(self, expression):
        worth = self._read(expression[1])
        return self._worth_of(expression[2]) if worth is None else worth
