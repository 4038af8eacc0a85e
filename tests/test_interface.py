"""[2] and the interface: names, arguments, defaults and where they are defined."""

import inspect
import unittest

from stemkeep import arrays, keys, locks

FUNCTIONS = {
    keys: {
        "is_worth": "(thing)", "is_key": "(thing)", "is_reference": "(thing)", "number_of": "(worth)",
        "number_text": "(number)", "is_number_text": "(worth)", "before": "(one, other)", "in_order": "(keys)",
        "is_stem": "(one, other)", "meet": "(one, other)",
    },
    arrays: {"long": "(last, keys)"},
}

ASKED = {
    "put": "(ref, worth)", "read": "(ref, *, otherwise='')", "data": "(ref)", "kill": "(ref)",
    "order": "(ref, *, back=False)", "following": "(ref, *, back=False)",
}

CLASSES = {
    arrays.Arrays: dict(ASKED, names="()", count="()", rows="(ref)", merge="(to, source)"),
    arrays.Desk: dict(ASKED, last="()"),
    locks.Locks: {
        "lock": "(job, ref)", "free": "(job, ref)", "free_all": "(job)", "leave": "(job)", "holds": "()",
        "waits": "()", "bars": "(job)", "ring": "()",
    },
}


def without_self(method):
    """Tell the signature of a method without its own object."""
    signature = inspect.signature(method)
    return str(signature.replace(parameters=list(signature.parameters.values())[1:]))


class TestInterface(unittest.TestCase):

    def test_functions(self):
        for module, functions in FUNCTIONS.items():
            for name, arguments in functions.items():
                with self.subTest(name):
                    function = getattr(module, name)
                    self.assertEqual(str(inspect.signature(function)), arguments)
                    self.assertEqual(function.__module__, module.__name__)

    def test_methods_stand_in_the_class_itself(self):
        for told, methods in CLASSES.items():
            for name, arguments in methods.items():
                with self.subTest(f"{told.__name__}.{name}"):
                    self.assertEqual(without_self(vars(told)[name]), arguments)

    def test_classes_are_made_by_what_the_interface_lists(self):
        self.assertEqual(str(inspect.signature(arrays.Arrays)), "()")
        self.assertEqual(str(inspect.signature(arrays.Desk)), "(arrays)")
        self.assertEqual(str(inspect.signature(locks.Locks)), "()")
        for told, module in ((arrays.Arrays, arrays), (arrays.Desk, arrays), (locks.Locks, locks)):
            self.assertEqual(told.__module__, module.__name__)


if __name__ == "__main__":
    unittest.main()
