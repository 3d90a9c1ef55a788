import unittest

from facework import errors
from helping import REFUSALS


class Errors(unittest.TestCase):

    def test_face_error_stands_straight_under_value_error(self):
        self.assertEqual(errors.FaceError.__bases__, (ValueError,))

    def test_each_refusal_stands_straight_under_face_error(self):
        for name in REFUSALS:
            with self.subTest(name):
                self.assertEqual(getattr(errors, name).__bases__, (errors.FaceError,))

    def test_there_are_thirteen_refusals_and_no_two_are_one(self):
        classes = [thing for thing in vars(errors).values() if isinstance(thing, type)]
        self.assertEqual(len(REFUSALS), 13)
        self.assertEqual(len(set(classes)), 14)
        self.assertEqual({thing.__name__ for thing in classes}, set(REFUSALS) | {"FaceError"})

    def test_none_stands_under_another_one(self):
        for name in REFUSALS:
            for other in REFUSALS:
                with self.subTest(name=name, other=other):
                    under = issubclass(getattr(errors, name), getattr(errors, other))
                    self.assertEqual(under, name == other)

    def test_each_is_made_with_one_text(self):
        for name in REFUSALS + ("FaceError",):
            with self.subTest(name):
                error = getattr(errors, name)("some words")
                self.assertEqual(str(error), "some words")
                self.assertEqual(error.args, ("some words",))

    def test_each_is_caught_as_a_face_error_and_as_a_value_error(self):
        for name in REFUSALS:
            for above in (errors.FaceError, ValueError):
                with self.subTest(name=name, above=above):
                    with self.assertRaises(above):
                        raise getattr(errors, name)("words")


if __name__ == "__main__":
    unittest.main()
