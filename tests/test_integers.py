"""The helpers that polynomials, relations and systems share."""

import sys
import unittest

from runroots.integers import decimal_text, is_natural, is_number, natural_of, raised


class Integers(unittest.TestCase):
    def test_is_number(self):
        for value in (0, 1, -1, 10 ** 200, -(10 ** 200)):
            self.assertIs(is_number(value), True)
        for value in (True, False, None, "1", 1.0, (1,), [1]):
            self.assertIs(is_number(value), False)

    def test_is_natural(self):
        for value in (0, 1, 10 ** 200):
            self.assertIs(is_natural(value), True)
        for value in (-1, -(10 ** 200), True, False, None, "1", 1.0):
            self.assertIs(is_natural(value), False)

    def test_raised(self):
        for base in range(-3, 12):
            for exponent in range(40):
                self.assertEqual(raised(base, exponent), base ** exponent)
        self.assertEqual(raised(10 ** 30 + 7, 97), (10 ** 30 + 7) ** 97)


def plain_texts(numbers):
    """Return Python's own decimals, which are limited otherwise."""
    kept = sys.get_int_max_str_digits()
    sys.set_int_max_str_digits(0)
    texts = [str(number) for number in numbers]
    sys.set_int_max_str_digits(kept)
    return texts


class Decimals(unittest.TestCase):
    SOME = [0, 1, 9, 10, 11, 2 ** 1800 - 1, 2 ** 1800, 2 ** 1801 + 3, 10 ** 541, 10 ** 542, 10 ** 600 - 1, 10 ** 600,
            10 ** 4299, 10 ** 4300, 10 ** 4301 + 1, 7 ** 12345, 10 ** 30000, 10 ** 30000 - 1, 2 ** 77777]

    def test_decimal_text(self):
        for number, text in zip(self.SOME, plain_texts(self.SOME)):
            self.assertTrue(decimal_text(number) == text, text[:20])
            if number:
                self.assertTrue(decimal_text(-number) == "-" + text, text[:20])

    def test_natural_of(self):
        for number, text in zip(self.SOME, plain_texts(self.SOME)):
            self.assertTrue(natural_of(text) == number, text[:20])

    def test_what_is_no_number(self):
        for text in ("", " ", "-1", "+1", "01", "00", "1 ", " 1", "1\n", "1_0", "x", "1x", "0x1", "1.0", "\u0661", "\u00b2",
                     "0" * 5000, "1" * 5000 + "x"):
            self.assertIsNone(natural_of(text), repr(text[:20]))


if __name__ == "__main__":
    unittest.main()
