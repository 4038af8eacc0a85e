"""[3]: the classes of the refusals, and their fields."""

import unittest

from stemkeep import errors

PLAIN = ["NoRef", "NoWorth", "Within", "TooDeep", "NoHead", "NoJob", "NoLock", "NoDealing", "NoProgram", "NoText"]
FIELDS = {"Waiting": ["job"], "Held": ["job", "ref"], "Erring": ["word"], "NoLabel": ["label"], "TooLong": ["most"]}


class TestErrors(unittest.TestCase):

    def test_any_refusal_is_a_value_error(self):
        self.assertEqual(errors.StemError.__bases__, (ValueError,))

    def test_each_class_stands_straight_under_stem_error(self):
        for name in PLAIN + list(FIELDS):
            with self.subTest(name):
                self.assertEqual(getattr(errors, name).__bases__, (errors.StemError,))
                self.assertEqual(getattr(errors, name).__module__, "stemkeep.errors")
        self.assertEqual(len(PLAIN + list(FIELDS)), 15)

    def test_plain_ones_are_made_of_nothing(self):
        for name in PLAIN:
            with self.subTest(name):
                self.assertIsInstance(getattr(errors, name)(), errors.StemError)

    def test_fields_are_handed_in_by_place(self):
        for name, fields in FIELDS.items():
            with self.subTest(name):
                worths = [("a", ("x",)), "word", 7][:len(fields)]
                made = getattr(errors, name)(*worths)
                self.assertEqual([getattr(made, field) for field in fields], worths)

    def test_fields_belong_to_each_object(self):
        one = errors.Held(1, ("a", ()))
        errors.Held(2, ("b", ()))
        self.assertEqual((one.job, one.ref), (1, ("a", ())))


if __name__ == "__main__":
    unittest.main()
