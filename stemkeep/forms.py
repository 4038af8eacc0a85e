"""The forms of expressions and deeds: tuples of a word and what belongs to it."""

from stemkeep.keys import is_name, is_worth
from stemkeep.signs import SIGNS

# By each word, the kinds of what stands behind it.
EXPRESSIONS = {
    "is": ("worth",),
    "var": ("name", "parts"),
    "at": ("name", "parts"),
    "short": ("some parts",),
    "op": ("sign", "one", "one"),
    "not": ("one",),
    "minus": ("one",),
    "length": ("one",),
    "piece": ("one", "one", "one"),
    "part": ("one", "one", "one"),
    "order": ("place",),
    "back": ("place",),
    "data": ("place",),
    "other": ("place", "one"),
}
DEEDS = {
    "set": ("place", "one"),
    "kill": ("place",),
    "write": ("one",),
    "if": ("one",),
    "else": (),
    "for": ("name", "one", "one", "one"),
    "do": ("name", "parts"),
    "quit": (),
    "new": ("names",),
    "lock": ("shared place",),
    "free": ("shared place",),
    "free_all": (),
    "start": (),
    "keep": (),
    "undo": (),
    "halt": (),
}


def fits_expression(thing):
    """Tell whether a thing is an expression."""
    word = _word_of(thing)
    return word in EXPRESSIONS and _are_of(EXPRESSIONS[word], thing[1:])


def fits_deed(thing):
    """Tell whether a thing is a deed, whatever labels there are."""
    word = _word_of(thing)
    return word in DEEDS and _are_of(DEEDS[word], thing[1:])


def are_names(thing):
    """Tell whether a thing is a list of names, no two alike."""
    return isinstance(thing, list) and all(is_name(name) for name in thing) and len(set(thing)) == len(thing)


def _word_of(thing):
    """Tell the text that a tuple begins with; the empty text of anything else."""
    if isinstance(thing, tuple) and thing and isinstance(thing[0], str):
        return thing[0]
    return ""


def _are_of(kinds, things):
    """Tell whether there is a thing of each kind, one behind the other."""
    if len(kinds) != len(things):
        return False
    for kind, thing in zip(kinds, things):
        if not _is_of(kind, thing):
            return False
    return True


def _is_of(kind, thing):
    """Tell whether a thing is of a kind."""
    if kind == "one":
        return fits_expression(thing)
    if kind == "worth":
        return is_worth(thing)
    if kind == "name":
        return is_name(thing)
    if kind == "sign":
        return isinstance(thing, str) and thing in SIGNS
    if kind == "parts":
        return _are_expressions(thing)
    if kind == "some parts":
        return _are_expressions(thing) and len(thing) > 0
    if kind == "names":
        return are_names(thing) and len(thing) > 0
    if kind == "shared place":
        return _word_of(thing) == "at" and fits_expression(thing)
    return _word_of(thing) in ("var", "at", "short") and fits_expression(thing)


def _are_expressions(thing):
    """Tell whether a thing is a list of expressions."""
    if not isinstance(thing, list):
        return False
    for part in thing:
        if not fits_expression(part):
            return False
    return True
