"""The refusals: where they stand, and what Unlike tells."""

import unittest

from wornband import errors

REFUSALS = [
    "BadTablet", "BadRow", "BadText", "BadMark", "TooLong", "TooTight", "SpoolDry",
    "NoTablet", "NothingLeft", "SeenThread", "Unlike", "NoSuchWay", "Barred",
]


class Errors(unittest.TestCase):
    def test_band_error_is_a_value_error(self):
        self.assertEqual(errors.BandError.__bases__, (ValueError,))

    def test_each_refusal_stands_right_under_band_error(self):
        for name in REFUSALS:
            with self.subTest(name=name):
                self.assertEqual(getattr(errors, name).__bases__, (errors.BandError,))

    def test_each_refusal_bears_its_name(self):
        for name in REFUSALS:
            with self.subTest(name=name):
                self.assertEqual(getattr(errors, name).__name__, name)

    def test_no_refusal_stands_under_another(self):
        for name in REFUSALS:
            for other in REFUSALS:
                with self.subTest(name=name, other=other):
                    under = issubclass(getattr(errors, name), getattr(errors, other))
                    self.assertEqual(under, name == other)

    def test_refusals_are_raised_with_words(self):
        for name in REFUSALS:
            if name != "Unlike":
                with self.subTest(name=name):
                    with self.assertRaises(errors.BandError) as caught:
                        raise getattr(errors, name)("why")
                    self.assertEqual(str(caught.exception), "why")

    def test_unlike_has_its_two_fields(self):
        for pick, side in [(0, "face"), (3, "back"), (17, "slant"), (240, "end")]:
            with self.subTest(pick=pick, side=side):
                with self.assertRaises(errors.Unlike) as caught:
                    raise errors.Unlike(pick, side)
                self.assertEqual(caught.exception.pick, pick)
                self.assertEqual(caught.exception.side, side)

    def test_unlike_takes_its_fields_by_name(self):
        unlike = errors.Unlike(side="face", pick=5)
        self.assertEqual((unlike.pick, unlike.side), (5, "face"))


if __name__ == "__main__":
    unittest.main()
