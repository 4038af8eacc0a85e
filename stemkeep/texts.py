"""Writing: expressions, programs and arrays as texts, and back."""

from stemkeep.arrays import Arrays
from stemkeep.errors import NoText
from stemkeep.forms import DEEDS
from stemkeep.jobs import is_program
from stemkeep.keys import is_number_text, is_reference, is_worth
from stemkeep.reader import Reader
from stemkeep.terms import is_expression


def show_expression(expression):
    """Write an expression."""
    if not is_expression(expression):
        raise NoText()
    return _expression_text(expression)


def show_program(program):
    """Write a program."""
    if not is_program(program):
        raise NoText()
    return "".join([_label_text(label, params, rows) for label, params, rows in program])


def read_expression(text):
    """Read an expression that was written."""
    told = Reader(text).expression()
    # Each has one writing: a text that is read, but would be written otherwise (or goes on), is none.
    if show_expression(told) != text:
        raise NoText()
    return told


def read_program(text):
    """Read a program that was written."""
    reader = Reader(text)
    told = []
    while not reader.is_done():
        told.append(_read_label(reader))
    if show_program(told) != text:
        raise NoText()
    return told


def show_arrays(arrays):
    """Write arrays: tell a list of texts, one for each node."""
    return [_node_text(ref, worth) for name in arrays.names() for ref, worth in arrays.rows((name, ()))]


def read_arrays(texts):
    """Read arrays that were written."""
    if not isinstance(texts, list):
        raise NoText()
    told = Arrays()
    for text in texts:
        ref, worth = _read_node(Reader(text))
        told.put(ref, worth)
    # They are written in one order, each node once.
    if show_arrays(told) != texts:
        raise NoText()
    return told


def _quoted(worth):
    """Write a worth between quotes."""
    return '"' + worth.replace('"', '""') + '"'


def _worth_text(worth):
    """Write a worth: a number from 0 on as it is, else between quotes."""
    if is_number_text(worth) and not worth.startswith("-"):
        return worth
    return _quoted(worth)


def _expression_text(expression):
    """Write an expression."""
    word = expression[0]
    if word == "is":
        return _worth_text(expression[1])
    if word == "var":
        return expression[1] + _parts_text(expression[2])
    if word == "at":
        return "^" + expression[1] + _parts_text(expression[2])
    if word == "short":
        return "^" + _parts_text(expression[1])
    if word == "op":
        return _expression_text(expression[2]) + expression[1] + _inner_text(expression[3])
    if word == "not":
        return "'" + _inner_text(expression[1])
    if word == "minus":
        return "-" + _inner_text(expression[1])
    return "$" + word + _parts_text(expression[1:])


def _inner_text(expression):
    """Write an expression behind a sign: an op there stands in brackets."""
    text = _expression_text(expression)
    return "(" + text + ")" if expression[0] == "op" else text


def _parts_text(parts):
    """Write expressions between brackets; nothing where there are none."""
    return "(" + ",".join([_expression_text(part) for part in parts]) + ")" if parts else ""


def _node_text(ref, worth):
    """Write a node: its reference with its keys, and its worth always between quotes."""
    name, keys = ref
    place = "^" + name + ("(" + ",".join([_worth_text(key) for key in keys]) + ")" if keys else "")
    return place + "=" + _quoted(worth)


def _label_text(label, params, rows):
    """Write a label and its rows, each in a line of its own."""
    head = label + ("(" + ",".join(params) + ")" if params else "")
    lines = [head] + ["  " + "; ".join([_deed_text(deed) for deed in row]) for row in rows]
    return "".join([line + "|" for line in lines])


def _deed_text(deed):
    """Write a deed."""
    word = deed[0]
    if word == "free_all":
        return "free"
    if word == "set":
        return "set " + _expression_text(deed[1]) + "=" + _expression_text(deed[2])
    if word == "for":
        return "for " + deed[1] + "=" + ":".join([_expression_text(part) for part in deed[2:]])
    if word == "do":
        return "do " + deed[1] + _parts_text(deed[2])
    if word == "new":
        return "new " + ",".join(deed[1])
    if len(deed) == 1:
        return word
    return word + " " + _expression_text(deed[1])


def _read_label(reader):
    """Read a label and its rows."""
    label = reader.letters()
    params = []
    if reader.takes("("):
        params = reader.names()
        reader.need(")")
    reader.need("|")
    rows = []
    while reader.takes("  "):
        rows.append(_read_row(reader))
    return (label, params, rows)


def _read_row(reader):
    """Read a row behind its blanks."""
    row = []
    if reader.takes("|"):
        return row
    row.append(_read_deed(reader))
    while reader.takes("; "):
        row.append(_read_deed(reader))
    reader.need("|")
    return row


def _read_deed(reader):
    """Read a deed."""
    word = reader.letters()
    if word == "free" and not reader.sees(" "):
        return ("free_all",)
    if word not in DEEDS or DEEDS[word] == ():
        return (word,)
    reader.need(" ")
    if word == "set":
        place = reader.place()
        reader.need("=")
        return (word, place, reader.expression())
    if word == "for":
        return _read_for(reader)
    if word == "do":
        label = reader.letters()
        return (word, label, reader.parts() if reader.sees("(") else [])
    return (word, reader.names() if word == "new" else reader.expression())


def _read_for(reader):
    """Read a for behind its word."""
    name = reader.letters()
    reader.need("=")
    first = reader.expression()
    reader.need(":")
    step = reader.expression()
    reader.need(":")
    return ("for", name, first, step, reader.expression())


def _read_node(reader):
    """Read a node of arrays; tell its reference and its worth."""
    place = reader.place()
    reader.need("=")
    worth = reader.quoted()
    if place[0] != "at":
        raise NoText()
    ref = (place[1], tuple([part[1] for part in place[2]]))
    if not is_reference(ref) or not is_worth(worth):
        raise NoText()
    return ref, worth
