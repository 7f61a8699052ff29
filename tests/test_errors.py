import unittest

from lath import errors

WITH_TEXT = (
    "NoRatio", "NoWay", "NoBound", "TooFew", "Closed", "Settled", "Taken",
    "Missing", "Full", "NoPair", "NoWord",
)
WITH_PLACE = ("NotARow", "NoLine")
ALL = WITH_TEXT + WITH_PLACE


class TestErrors(unittest.TestCase):
    def test_thirteen_refusals_under_lath_error_alone(self):
        self.assertEqual(len(ALL), 13)
        for name in ALL:
            self.assertEqual(getattr(errors, name).__bases__, (errors.LathError,), name)
        self.assertEqual(errors.LathError.__bases__, (ValueError,))

    def test_none_stands_under_another(self):
        for name in ALL:
            for other in ALL:
                if name != other:
                    self.assertFalse(issubclass(getattr(errors, name), getattr(errors, other)), (name, other))

    def test_made_with_one_text(self):
        for name in WITH_TEXT + ("LathError",):
            refusal = getattr(errors, name)("why")
            self.assertIsInstance(refusal, errors.LathError)
            self.assertIsInstance(refusal, ValueError)
            self.assertIsInstance(str(refusal), str)

    def test_made_with_a_place(self):
        for name in WITH_PLACE:
            for place in (0, 7, 40):
                refusal = getattr(errors, name)(place)
                self.assertEqual(refusal.at, place)
                self.assertIsInstance(refusal, errors.LathError)
                self.assertIsInstance(str(refusal), str)

    def test_caught_as_what_they_are(self):
        for name in ALL:
            made = getattr(errors, name)(3) if name in WITH_PLACE else getattr(errors, name)("why")
            with self.assertRaises(errors.LathError):
                raise made
            with self.assertRaises(getattr(errors, name)):
                raise made


if __name__ == "__main__":
    unittest.main()
