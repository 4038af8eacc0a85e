"""Worths, the numbers that they begin with, keys and their order, names and references."""

MOST_KEYS = 6
_LONGEST_KEY = 40
_LONGEST_NAME = 8
_FIGURES = "0123456789"
# The percent sign, which no worth has, by its number: the sign itself may not stand in a string (L27).
_PERCENT = 37


def is_worth(thing):
    """Tell whether a thing is a text of signs from the blank to the tilde, without a percent sign."""
    return isinstance(thing, str) and all(" " <= sign <= "~" and ord(sign) != _PERCENT for sign in thing)


def number_of(worth):
    """Tell the whole number that a worth begins with, behind any many signs; 0 where there is none."""
    start = 0
    while start < len(worth) and worth[start] in "+-":
        start += 1
    end = start
    while end < len(worth) and worth[end] in _FIGURES:
        end += 1
    number = _number_of_figures(worth[start:end])
    return -number if worth[:start].count("-") % 2 == 1 else number


def _number_of_figures(figures):
    """Tell the number of a row of figures, 0 of none."""
    # By 64 figures at a time, since int() refuses rows of some thousands, and a worth may have any length.
    first = len(figures) % 64
    number = int("0" + figures[:first])
    for at in range(first, len(figures), 64):
        number = number * 10 ** 64 + int(figures[at:at + 64])
    return number


def number_text(number):
    """Tell a whole number's own text."""
    # By 64 figures at a time, since str() refuses numbers of some thousands.
    left = abs(number)
    pieces = []
    while left >= 10 ** 64:
        left, low = divmod(left, 10 ** 64)
        pieces.append(str(low).zfill(64))
    pieces.append(str(left))
    figures = "".join(pieces[::-1])
    return "-" + figures if number < 0 else figures


def is_number_text(worth):
    """Tell whether a worth is the own text of a number: no noughts ahead, and no plus."""
    figures = worth.removeprefix("-")
    if figures.startswith("0"):
        return worth == "0"
    return figures != "" and all(sign in _FIGURES for sign in figures)


def is_key(thing):
    """Tell whether a thing is a worth of one to forty signs."""
    return is_worth(thing) and 1 <= len(thing) <= _LONGEST_KEY


def key_rank(key):
    """Tell what stands for a key when keys are compared: numbers' own texts first, the others by their signs."""
    if is_number_text(key):
        return (0, number_of(key), "")
    return (1, 0, key)


def row_rank(keys):
    """Tell what stands for a row of keys when rows are compared: a row stands ahead of those that it begins."""
    return tuple(key_rank(key) for key in keys)


def before(one, other):
    """Tell whether one key stands ahead of the other."""
    return key_rank(one) < key_rank(other)


def in_order(keys):
    """Tell a list of the keys in their order."""
    return sorted(keys, key=key_rank)


def is_name(thing):
    """Tell whether a thing is a text of one to eight small letters."""
    if not isinstance(thing, str) or not 1 <= len(thing) <= _LONGEST_NAME:
        return False
    return all("a" <= sign <= "z" for sign in thing)


def is_row(thing):
    """Tell whether a thing is a tuple of at most six keys."""
    return isinstance(thing, tuple) and len(thing) <= MOST_KEYS and all(is_key(key) for key in thing)


def is_asking_row(thing):
    """Tell whether a thing is a row of one key at least, the last of which may also be the empty text."""
    if not isinstance(thing, tuple) or not 1 <= len(thing) <= MOST_KEYS:
        return False
    last = thing[-1]
    return is_row(thing[:-1]) and is_worth(last) and len(last) <= _LONGEST_KEY


def is_pair(thing):
    """Tell whether a thing is a tuple of two."""
    return isinstance(thing, tuple) and len(thing) == 2


def is_reference(thing):
    """Tell whether a thing is a tuple of a name and a row of keys."""
    return is_pair(thing) and is_name(thing[0]) and is_row(thing[1])


def is_asking_reference(thing):
    """Tell whether a thing is a reference with a key, the last of which may also be the empty text."""
    return is_pair(thing) and is_name(thing[0]) and is_asking_row(thing[1])


def stems_of(ref):
    """Tell a list of the stems of a reference, the shortest one first, itself the last one."""
    name, keys = ref
    return [(name, keys[:size]) for size in range(len(keys) + 1)]


def is_stem(one, other):
    """Tell whether one reference is a stem of the other: of its name, and its keys the beginning of the other's."""
    return one[0] == other[0] and one[1] == other[1][:len(one[1])]


def meet(one, other):
    """Tell whether one of two references is a stem of the other."""
    return is_stem(one, other) or is_stem(other, one)
