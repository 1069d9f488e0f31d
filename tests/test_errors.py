import unittest

from onlybuilt import errors

PLAIN = (
    "NoText", "TooLarge", "NoName", "Taken", "Unlike", "NoPaper", "InUse", "NotStanding", "Nothing",
)
WITH_AT = ("NoGrowth", "BadRow")
WITH_ROAD = ("NoGiven", "Unnamed", "NotThat")


def refusals():
    """One object of each class, with the class's name."""
    made = [(name, getattr(errors, name)("why")) for name in PLAIN]
    made += [(name, getattr(errors, name)(3)) for name in WITH_AT]
    return made + [(name, getattr(errors, name)((2, 1))) for name in WITH_ROAD]


class Errors(unittest.TestCase):

    def test_base_is_a_value_error(self):
        self.assertEqual(errors.OnlyError.__bases__, (ValueError,))

    def test_each_class_stands_right_under_the_base(self):
        for name in PLAIN + WITH_AT + WITH_ROAD:
            with self.subTest(name=name):
                self.assertEqual(getattr(errors, name).__bases__, (errors.OnlyError,))

    def test_just_the_classes_of_the_document_are_defined_there(self):
        defined = {
            name for name, found in vars(errors).items()
            if isinstance(found, type) and found.__module__ == "onlybuilt.errors"
        }
        self.assertEqual(defined, {"OnlyError", *PLAIN, *WITH_AT, *WITH_ROAD})

    def test_fields_are_set_when_the_object_is_created(self):
        for name in WITH_AT:
            with self.subTest(name=name):
                self.assertEqual(getattr(errors, name)(0).at, 0)
                self.assertEqual(getattr(errors, name)(at=7).at, 7)
        for name in WITH_ROAD:
            with self.subTest(name=name):
                self.assertEqual(getattr(errors, name)(()).road, ())
                self.assertEqual(getattr(errors, name)(road=(2, 1)).road, (2, 1))

    def test_each_is_taken_by_the_base_and_by_none_of_the_others(self):
        for name, refusal in refusals():
            for other in PLAIN + WITH_AT + WITH_ROAD:
                with self.subTest(name=name, other=other):
                    self.assertEqual(isinstance(refusal, getattr(errors, other)), name == other)
            with self.assertRaises(errors.OnlyError):
                raise refusal
            with self.assertRaises(ValueError):
                raise refusal


if __name__ == "__main__":
    unittest.main()
