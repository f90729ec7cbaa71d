import unittest

from lentwork import errors

NAMES = (
    "BadWork", "BadPlace", "Twice", "BadBound", "BadWorker", "BadMoment", "NoLending", "Lost", "BadTelling",
    "Otherwise", "NoPiece", "BadCut", "BadJoin", "BadLine", "NoText", "Fallen", "NoBook", "Down", "BadPlan", "NoLine",
)


class ErrorClasses(unittest.TestCase):
    def test_any_refusal_is_straight_under_value_error(self):
        self.assertEqual(errors.LentError.__bases__, (ValueError,))
        self.assertEqual(errors.LentError.__name__, "LentError")

    def test_each_refusal_is_straight_under_lent_error(self):
        for name in NAMES:
            with self.subTest(name):
                kind = getattr(errors, name)
                self.assertEqual(kind.__bases__, (errors.LentError,))
                self.assertEqual(kind.__name__, name)

    def test_no_two_names_are_one_class(self):
        self.assertEqual(len({getattr(errors, name) for name in NAMES}), len(NAMES))

    def test_none_is_under_another_one(self):
        kinds = [getattr(errors, name) for name in NAMES]
        for one in kinds:
            self.assertEqual([other for other in kinds if issubclass(one, other)], [one])

    def test_each_can_be_raised_and_taken_as_any_refusal(self):
        for name in NAMES:
            with self.subTest(name), self.assertRaises(errors.LentError):
                raise getattr(errors, name)("words")


if __name__ == "__main__":
    unittest.main()
