"""The refusals: their names, their places under one another, and NoPaper's value."""

import unittest

from rookborders import errors

NAMES = (
    "NoSquare", "NoMove", "TooMany", "NoPart", "NotOne", "NoPaper", "NoText", "NoRow", "NoStep",
)


def made(name):
    kind = getattr(errors, name)
    return kind(1) if name == "NoPaper" else kind("words")


class ErrorsTest(unittest.TestCase):
    def test_rook_error_stands_under_value_error(self):
        self.assertEqual(errors.RookError.__bases__, (ValueError,))

    def test_each_stands_straight_under_rook_error(self):
        for name in NAMES:
            with self.subTest(name):
                self.assertEqual(getattr(errors, name).__bases__, (errors.RookError,))

    def test_none_stands_under_another(self):
        for name in NAMES:
            for other in NAMES:
                with self.subTest(name, other=other):
                    under = issubclass(getattr(errors, name), getattr(errors, other))
                    self.assertEqual(under, name == other)

    def test_each_is_raised_and_taken_as_a_refusal(self):
        for name in NAMES:
            for above in (errors.RookError, ValueError):
                with self.subTest(name, above=above):
                    with self.assertRaises(above):
                        raise made(name)

    def test_words_are_handed_in_or_not(self):
        for name in NAMES:
            if name != "NoPaper":
                with self.subTest(name):
                    kind = getattr(errors, name)
                    self.assertIsInstance(kind(), errors.RookError)
                    self.assertIsInstance(kind("words"), errors.RookError)

    def test_no_paper_has_at_from_when_it_is_made(self):
        for at in (1, 2, 9):
            with self.subTest(at):
                self.assertEqual(errors.NoPaper(at).at, at)
                with self.assertRaises(errors.NoPaper) as taken:
                    raise errors.NoPaper(at)
                self.assertEqual(taken.exception.at, at)

    def test_each_no_paper_keeps_its_own_at(self):
        one, other = errors.NoPaper(3), errors.NoPaper(7)
        self.assertEqual((one.at, other.at), (3, 7))


if __name__ == "__main__":
    unittest.main()
