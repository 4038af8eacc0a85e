"""The signs that stand between two expressions, and what they tell of two worths."""

from stemkeep.errors import Erring
from stemkeep.keys import number_of, number_text


def is_true(worth):
    """Tell whether a worth has a number other than 0."""
    return number_of(worth) != 0


def truth_text(truth):
    """Tell the worth of a truth."""
    return "1" if truth else "0"


def _sum_of(one, other):
    return number_text(number_of(one) + number_of(other))


def _difference_of(one, other):
    return number_text(number_of(one) - number_of(other))


def _product_of(one, other):
    return number_text(number_of(one) * number_of(other))


def _quotient_of(one, other):
    first, second = number_of(one), _number_but_nought(other)
    quotient = abs(first) // abs(second)
    return number_text(quotient if (first < 0) == (second < 0) else -quotient)


def _rest_of(one, other):
    first, second = number_of(one), _number_but_nought(other)
    return number_text(first - first // second * second)


def _number_but_nought(worth):
    """Tell the number of a worth by which is parted; 0 errs."""
    number = number_of(worth)
    if number == 0:
        raise Erring("nought")
    return number


def _is_less(one, other):
    return truth_text(number_of(one) < number_of(other))


def _is_more(one, other):
    return truth_text(number_of(one) > number_of(other))


def _is_same(one, other):
    return truth_text(one == other)


def _joined(one, other):
    return one + other


def _has_within(one, other):
    return truth_text(other in one)


def _is_behind(one, other):
    return truth_text(one > other)


def _are_both(one, other):
    return truth_text(is_true(one) and is_true(other))


def _is_either(one, other):
    return truth_text(is_true(one) or is_true(other))


SIGNS = {
    "+": _sum_of, "-": _difference_of, "*": _product_of, "/": _quotient_of, "#": _rest_of, "<": _is_less,
    ">": _is_more, "=": _is_same, "_": _joined, "[": _has_within, "]": _is_behind, "&": _are_both, "!": _is_either,
}


def told_by(sign, one, other):
    """Tell what a sign between two worths tells."""
    action = SIGNS[sign]
    return action(one, other)


def piece_of(one, other, nth):
    """Tell the nth piece of a text, parted at each other one; the empty text where there is none."""
    pieces = [one] if other == "" else one.split(other)
    return pieces[nth - 1] if 1 <= nth <= len(pieces) else ""


def part_of(one, first, last):
    """Tell the signs of a text from the first-th to the last-th."""
    return one[max(first, 1) - 1:max(last, 0)]
