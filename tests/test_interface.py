"""[2] and the interface: names, arguments, defaults and where they are defined."""

import inspect
import unittest

from stemkeep import arrays, dealings, jobs, keys, locks, terms, texts

FUNCTIONS = {
    keys: {
        "is_worth": "(thing)", "is_key": "(thing)", "is_reference": "(thing)", "number_of": "(worth)",
        "number_text": "(number)", "is_number_text": "(worth)", "before": "(one, other)", "in_order": "(keys)",
        "is_stem": "(one, other)", "meet": "(one, other)",
    },
    arrays: {"long": "(last, keys)"},
    terms: {"is_expression": "(thing)"},
    jobs: {"is_program": "(thing)", "drive": "(hall, picks, *, most=5000)"},
    texts: {
        "show_expression": "(expression)", "show_program": "(program)", "read_expression": "(text)",
        "read_program": "(text)", "show_arrays": "(arrays)", "read_arrays": "(texts)",
    },
}

ASKED = {
    "put": "(ref, worth)", "read": "(ref, *, otherwise='')", "data": "(ref)", "kill": "(ref)",
    "order": "(ref, *, back=False)", "following": "(ref, *, back=False)",
}

CLASSES = {
    arrays.Arrays: dict(ASKED, names="()", count="()", rows="(ref)", merge="(to, source)"),
    arrays.Desk: dict(ASKED, last="()"),
    locks.Locks: {
        "lock": "(job, ref)", "free": "(job, ref)", "free_all": "(job)", "leave": "(job)", "holds": "()",
        "waits": "()", "bars": "(job)", "ring": "()",
    },
    dealings.Dealings: {
        "start": "(job)", "keep": "(job)", "undo": "(job)", "end": "(job)", "put": "(job, ref, worth)",
        "kill": "(job, ref)", "data": "(job, ref)", "level": "(job)", "read": "(job, ref, *, otherwise='')",
        "order": "(job, ref, *, back=False)", "touched": "(job)",
    },
    terms.Scene: {
        "reckon": "(expression)", "place": "(expression, *, empty=False)", "last": "()", "recall": "(ref)",
    },
    jobs.Hall: {
        "turn": "(job)", "arrays": "()", "writings": "(job)", "waiting": "()", "stuck": "()", "fault": "(job)",
        "is_over": "(job)",
    },
}

MADE = {
    arrays.Arrays: ("()", arrays), arrays.Desk: ("(arrays)", arrays), locks.Locks: ("()", locks),
    dealings.Dealings: ("(arrays)", dealings), terms.Scene: ("(own, dealings, job=0)", terms),
    jobs.Hall: ("(program, jobs, *, rows=None)", jobs),
}


def without_self(method):
    """Tell the signature of a method without its own object."""
    signature = inspect.signature(method)
    return str(signature.replace(parameters=list(signature.parameters.values())[1:]))


class TestInterface(unittest.TestCase):

    def test_functions(self):
        for module, functions in FUNCTIONS.items():
            for name, arguments in functions.items():
                with self.subTest(name):
                    function = getattr(module, name)
                    self.assertEqual(str(inspect.signature(function)), arguments)
                    self.assertEqual(function.__module__, module.__name__)

    def test_methods_stand_in_the_class_itself(self):
        for told, methods in CLASSES.items():
            for name, arguments in methods.items():
                with self.subTest(f"{told.__name__}.{name}"):
                    self.assertEqual(without_self(vars(told)[name]), arguments)

    def test_classes_are_made_by_what_the_interface_lists(self):
        for told, (arguments, module) in MADE.items():
            with self.subTest(told.__name__):
                self.assertEqual(str(inspect.signature(told)), arguments)
                self.assertEqual(told.__module__, module.__name__)


if __name__ == "__main__":
    unittest.main()
