"""The helpers that polynomials, relations and systems share."""

import unittest

from runroots.integers import is_natural, is_number, raised


class Integers(unittest.TestCase):
    def test_is_number(self):
        for value in (0, 1, -1, 10 ** 200, -(10 ** 200)):
            self.assertIs(is_number(value), True)
        for value in (True, False, None, "1", 1.0, (1,), [1]):
            self.assertIs(is_number(value), False)

    def test_is_natural(self):
        for value in (0, 1, 10 ** 200):
            self.assertIs(is_natural(value), True)
        for value in (-1, -(10 ** 200), True, False, None, "1", 1.0):
            self.assertIs(is_natural(value), False)

    def test_raised(self):
        for base in range(-3, 12):
            for exponent in range(40):
                self.assertEqual(raised(base, exponent), base ** exponent)
        self.assertEqual(raised(10 ** 30 + 7, 97), (10 ** 30 + 7) ** 97)


if __name__ == "__main__":
    unittest.main()
