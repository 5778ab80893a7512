"""4.2 to 4.4: binomial coefficients, carries, factors 2 and digits."""

import faulthandler
import itertools
import unittest

from runroots.binomial import binomial, carries, digit_of, is_under, power_digits, twos

GREAT = [0, 1, 2 ** 900, 2 ** 900 - 1, 3 ** 600, 7 ** 400, 10 ** 300, 10 ** 300 + 1, (4 ** 500 - 1) // 3, 2 ** 1100 - 2]


def pascal(rows):
    """Return the rows of Pascal's triangle, each made by adding neighbours of the one before it."""
    triangle = [[1]]
    while len(triangle) < rows:
        last = triangle[-1]
        triangle.append([1] + [one + other for one, other in zip(last, last[1:])] + [1])
    return triangle


def slow_carries(a, b):
    """Return how many carries there are, adding digit by digit."""
    count = carry = 0
    while a or b or carry:
        carry = (a % 2 + b % 2 + carry) // 2
        count += carry
        a, b = a // 2, b // 2
    return count


def slow_twos(n):
    count = 0
    while n % 2 == 0:
        n, count = n // 2, count + 1
    return count


class Binomial(unittest.TestCase):
    def test_against_the_rule_of_pascal(self):
        for n, row in enumerate(pascal(80)):
            self.assertEqual([binomial(n, k) for k in range(n + 1)], row)

    def test_beyond_n(self):
        for n in (0, 1, 5, 100, 10 ** 30):
            for k in (n + 1, n + 2, 2 * n + 7, 10 ** 40):
                self.assertEqual(binomial(n, k), 0)

    def test_the_ends(self):
        for n in (0, 1, 2, 50, 10 ** 30):
            self.assertEqual(binomial(n, 0), 1)
            self.assertEqual(binomial(n, n), 1)
        self.assertEqual(binomial(10 ** 30, 1), 10 ** 30)
        self.assertEqual(binomial(10 ** 30, 10 ** 30 - 1), 10 ** 30)
        self.assertEqual(binomial(10 ** 30, 2), 10 ** 30 * (10 ** 30 - 1) // 2)

    def test_a_great_one(self):
        row = pascal(401)[400]
        self.assertEqual(binomial(400, 200), row[200])
        self.assertEqual(binomial(400, 37), row[37])


class IsUnder(unittest.TestCase):
    def test_small_numbers(self):
        for a, b in itertools.product(range(40), repeat=2):
            wanted = all(b // 2 ** place % 2 == 1 for place in range(6) if a // 2 ** place % 2 == 1)
            self.assertIs(is_under(a, b), wanted)

    def test_great_numbers(self):
        for a, b in itertools.product(GREAT, repeat=2):
            self.assertIs(is_under(a, b), a | b == b)
        self.assertIs(is_under(2 ** 899, 2 ** 900 - 1), True)
        self.assertIs(is_under(2 ** 900, 2 ** 900 - 1), False)
        self.assertIs(is_under(0, 10 ** 300), True)
        self.assertIs(is_under(10 ** 300, 0), False)


class Carries(unittest.TestCase):
    def test_small_numbers(self):
        for a, b in itertools.product(range(70), repeat=2):
            self.assertEqual(carries(a, b), slow_carries(a, b))

    def test_examples(self):
        for a, b, count in ((0, 0, 0), (1, 1, 1), (1, 3, 2), (5, 10, 0), (7, 1, 3), (2, 2, 1), (255, 255, 8)):
            self.assertEqual(carries(a, b), count)

    def test_great_numbers(self):
        for a, b in itertools.product(GREAT, repeat=2):
            self.assertEqual(carries(a, b), slow_carries(a, b))
        self.assertEqual(carries(2 ** 900 - 1, 1), 900)
        self.assertEqual(carries(2 ** 900, 2 ** 900 - 1), 0)


class Twos(unittest.TestCase):
    def test_small_numbers(self):
        for n in range(1, 600):
            self.assertEqual(twos(n), slow_twos(n))

    def test_great_numbers(self):
        for n in GREAT[1:]:
            self.assertEqual(twos(n), slow_twos(n))
            self.assertEqual(twos(n * 2 ** 777), slow_twos(n) + 777)
        self.assertEqual(twos(10 ** 300), 300)


class HowTheyHangTogether(unittest.TestCase):
    """4.3."""

    def test_twos_of_a_binomial_are_carries(self):
        for a, b in itertools.product(range(48), repeat=2):
            self.assertEqual(twos(binomial(a + b, a)), carries(a, b))
        for a, b in ((1000, 24), (512, 511), (777, 777), (1023, 1)):
            self.assertEqual(twos(binomial(a + b, a)), carries(a, b))

    def test_under_exactly_if_the_binomial_is_odd(self):
        for a, b in itertools.product(range(70), repeat=2):
            self.assertIs(is_under(a, b), binomial(b, a) % 2 == 1)
            if a <= b:
                self.assertIs(is_under(a, b), carries(a, b - a) == 0)


class DigitOf(unittest.TestCase):
    def test_decimals(self):
        for number in (0, 7, 10, 90210, 10 ** 20, 31415926535897932384626433):
            for position, digit in enumerate(reversed(str(number))):
                self.assertEqual(digit_of(number, 10, position), int(digit))

    def test_bases(self):
        for base in (2, 3, 4, 7, 10, 16, 1000, 10 ** 30):
            for digits in ([1], [1, 0, 1], [base - 1] * 5, [at % base for at in range(1, 30)], [0, 0, base - 1]):
                number = sum(digit * base ** at for at, digit in enumerate(digits))
                for position, digit in enumerate(digits):
                    self.assertEqual(digit_of(number, base, position), digit)
                for position in (0, 1, 7, 10 ** 30):
                    self.assertEqual(digit_of(number, base, len(digits) + position), 0)

    def test_around_the_last_digit(self):
        for base, length in itertools.product((2, 3, 5, 8, 9), range(1, 12)):
            self.assertEqual(digit_of(base ** length, base, length), 1)
            self.assertEqual(digit_of(base ** length, base, length + 1), 0)
            self.assertEqual(digit_of(base ** length - 1, base, length - 1), base - 1)
            self.assertEqual(digit_of(base ** length - 1, base, length), 0)

    def test_a_position_far_beyond(self):
        # A power with such an exponent would take for ever: then the whole run of the tests ends.
        faulthandler.dump_traceback_later(60, exit=True)
        for number, base in itertools.product((0, 1, 10 ** 300), (2, 3, 10 ** 300)):
            self.assertEqual(digit_of(number, base, 10 ** 30), 0)
        faulthandler.cancel_dump_traceback_later()


class PowerDigits(unittest.TestCase):
    def test_they_are_binomials(self):
        for b, row in enumerate(pascal(60)):
            self.assertEqual(power_digits(b), row)
            self.assertEqual(power_digits(b), [binomial(b, k) for k in range(b + 1)])

    def test_they_are_the_digits_of_the_power(self):
        for b in range(40):
            base = 2 ** (b + 1)
            power = (base + 1) ** b
            self.assertEqual(power_digits(b), [digit_of(power, base, k) for k in range(b + 1)])
            self.assertEqual(digit_of(power, base, b + 1), 0)

    def test_examples(self):
        self.assertEqual(power_digits(0), [1])
        self.assertEqual(power_digits(3), [1, 3, 3, 1])
        self.assertEqual(power_digits(500), pascal(501)[500])


if __name__ == "__main__":
    unittest.main()
