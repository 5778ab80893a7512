"""7.2 to 7.4: sums of two, three and four squares."""

import itertools
import random
import unittest
from math import isqrt

from runroots.errors import TooGreat
from runroots.foursquares import four_squares, is_three_squares, is_two_squares, square_product, square_sums

MOST = 10 ** 30


def tried_sums(most):
    """Return a dict from the numbers to their descending tuples in ascending order, for all numbers up to some."""
    found = {n: [] for n in range(most + 1)}
    for a, b, c, d in itertools.product(range(isqrt(most) + 1), repeat=4):
        total = a * a + b * b + c * c + d * d
        if a >= b >= c >= d and total <= most:
            found[total].append((a, b, c, d))
    return found


def sums_of(count, most):
    """Return the set of the sums of so many squares, up to some number."""
    sums = {0}
    for _ in range(count):
        sums = {n + a * a for n in sums for a in range(isqrt(most) + 1) if n + a * a <= most}
    return sums


def squares(numbers):
    return sum(number * number for number in numbers)


def has_two(n):
    return any(isqrt(n - a * a) ** 2 == n - a * a for a in range(isqrt(n // 2), isqrt(n) + 1))


def has_three(n):
    """Return whether n is a sum of three squares, by trying."""
    return any(has_two(n - a * a) for a in range(isqrt(n), -1, -1))


class SquareSums(unittest.TestCase):
    def test_against_trying(self):
        for n, wanted in tried_sums(300).items():
            self.assertEqual(square_sums(n), wanted, n)

    def test_the_example_and_zero(self):
        self.assertEqual(square_sums(4), [(1, 1, 1, 1), (2, 0, 0, 0)])
        self.assertEqual(square_sums(0), [(0, 0, 0, 0)])
        self.assertEqual(square_sums(1), [(1, 0, 0, 0)])

    def test_greater_ones(self):
        for n in (9973, 9984, 9999, 10000):
            wanted = []
            for a, b, c in itertools.product(range(isqrt(n) + 1), repeat=3):
                rest = n - a * a - b * b - c * c
                if a >= b >= c and rest >= 0 and isqrt(rest) <= c and isqrt(rest) ** 2 == rest:
                    wanted.append((a, b, c, isqrt(rest)))
            self.assertEqual(square_sums(n), sorted(wanted), n)
        self.assertEqual(square_sums(10000)[-1], (100, 0, 0, 0))

    def test_the_limit(self):
        for n in (10001, 10002, 10 ** 9, 10 ** 40):
            with self.assertRaises(TooGreat):
                square_sums(n)

    def test_the_list_is_new(self):
        square_sums(4).append(None)
        self.assertEqual(len(square_sums(4)), 2)


class FourSquares(unittest.TestCase):
    def demand_greatest(self, n):
        """Each number in turn is the greatest that is possible."""
        a, b, c, d = found = four_squares(n)
        self.assertIsInstance(found, tuple)
        self.assertEqual(squares(found), n)
        self.assertTrue(a >= b >= c >= d >= 0, found)
        for greater in range(a + 1, min(a + 4, isqrt(n)) + 1):
            rest = n - greater * greater
            # Without the fours in it, what is left must have the rest 7 by 8: then it is no sum of three squares.
            while rest and rest % 4 == 0:
                rest = rest // 4
            self.assertEqual(rest % 8, 7, (n, greater))
        for greater in range(b + 1, isqrt(n - a * a) + 1):
            self.assertFalse(has_two(n - a * a - greater * greater), (n, greater))
        for greater in range(c + 1, isqrt(n - a * a - b * b) + 1):
            rest = n - a * a - b * b - greater * greater
            self.assertNotEqual(isqrt(rest) ** 2, rest, (n, greater))

    def test_the_last_of_all(self):
        self.assertEqual(four_squares(7), (2, 1, 1, 1))
        for n in [*range(1500), *range(9900, 10001)]:
            self.assertEqual(four_squares(n), square_sums(n)[-1], n)

    def test_great_ones(self):
        self.assertEqual(four_squares(MOST), (10 ** 15, 0, 0, 0))
        chosen = random.Random(7)
        for digits in range(5, 31):
            for _ in range(3):
                self.demand_greatest(chosen.randrange(10 ** (digits - 1), 10 ** digits))
        for n in (MOST - 1, MOST - 2, MOST - 3, MOST - 10 ** 15, 10 ** 29 + 7):
            self.demand_greatest(n)

    def test_powers_of_four(self):
        """Here only few tuples there are, with numbers far apart."""
        for i in range(48):
            n, root = 4 ** i, 2 ** i
            self.assertEqual(four_squares(n), (root, 0, 0, 0))
            self.assertEqual(four_squares(2 * n), (root, root, 0, 0))
            self.assertEqual(four_squares(6 * n), (2 * root, root, root, 0))
            self.assertEqual(four_squares(14 * n), (3 * root, 2 * root, root, 0))
            self.assertEqual(four_squares(28 * n), (5 * root, root, root, root))
        for root in (2 ** 20, 2 ** 24):
            for a in (10 ** 15 - 1, 10 ** 15 - 2):
                self.assertEqual(four_squares(a * a + 6 * root * root), (a, 2 * root, root, root))
                self.assertEqual(four_squares(a * a + 2 * root * root), (a, root, root, 0))

    def test_the_limit(self):
        for n in (MOST + 1, MOST + 2, 10 ** 31, 10 ** 400):
            with self.assertRaises(TooGreat):
                four_squares(n)


class ThreeAndTwoSquares(unittest.TestCase):
    def test_three_against_trying(self):
        three = sums_of(3, 4000)
        for n in range(4001):
            self.assertIs(is_three_squares(n), n in three, n)
        self.assertIs(is_three_squares(0), True)

    def test_three_by_the_form(self):
        for i, j in itertools.product(range(40), (0, 1, 2, 10 ** 9, 10 ** 100)):
            self.assertIs(is_three_squares(4 ** i * (8 * j + 7)), False)
            self.assertIs(is_three_squares(2 * 4 ** i * (8 * j + 7)), True)
            for rest in (1, 2, 3, 5, 6):
                self.assertIs(is_three_squares(4 ** i * (8 * j + rest)), True)

    def test_three_for_greater_numbers(self):
        for n in [*range(10 ** 10 - 40, 10 ** 10 + 1), 10 ** 9 + 7, 7 * 4 ** 15, 15 * 4 ** 14]:
            self.assertIs(is_three_squares(n), has_three(n) if n % 8 != 7 and n % 4 else self.by_form(n), n)

    def by_form(self, n):
        while n % 4 == 0:
            n = n // 4
        return n % 8 != 7

    def test_two_against_trying(self):
        two = sums_of(2, 20000)
        for n in range(20001):
            self.assertIs(is_two_squares(n), n in two, n)
        self.assertIs(is_two_squares(0), True)

    def test_below_zero(self):
        for n in (-1, -2, -4, -7, -100):
            self.assertIs(is_three_squares(n), False)
            self.assertIs(is_two_squares(n), False)

    def test_two_for_greater_numbers(self):
        chosen = random.Random(8)
        numbers = [chosen.randrange(10 ** 9, 10 ** 10) for _ in range(40)]
        # Products of one, two and three primes with the rest 3 by 4, of two with the rest 1, and squares of these.
        primes = [99991 ** 2, 99991 * 99971, 99991 * 2, 99971, 99989 * 99961, 99989 ** 2, 99989, 2 ** 33, 3 * 2 ** 31,
                  9 * 2 ** 30, 7 * 11 * 19, 3 ** 20, 3 ** 19, 49 * 5 * 13, 49 * 5 * 13 * 3, 65537, 65537 * 65539]
        for n in [*numbers, *primes, *range(10 ** 10 - 30, 10 ** 10 + 1)]:
            self.assertIs(is_two_squares(n), has_two(n), n)

    def test_the_limit_of_two(self):
        for n in (10 ** 10 + 1, 2 * 10 ** 10, 10 ** 50):
            with self.assertRaises(TooGreat):
                is_two_squares(n)
        self.assertIs(is_two_squares(10 ** 10), True)


class SquareProduct(unittest.TestCase):
    def test_each_item(self):
        """The four items have all sixteen products of one number of each tuple, with their signs."""
        wanted = [
            {(0, 0): 1, (1, 1): 1, (2, 2): 1, (3, 3): 1},
            {(0, 1): 1, (1, 0): -1, (2, 3): 1, (3, 2): -1},
            {(0, 2): 1, (1, 3): -1, (2, 0): -1, (3, 1): 1},
            {(0, 3): 1, (1, 2): 1, (2, 1): -1, (3, 0): -1},
        ]
        units = [tuple(int(at == place) for at in range(4)) for place in range(4)]
        for left, right in itertools.product(range(4), repeat=2):
            found = square_product(units[left], units[right])
            self.assertIsInstance(found, tuple)
            self.assertEqual(list(found), [signs.get((left, right), 0) for signs in wanted])

    def test_integers_of_any_sign(self):
        chosen = random.Random(9)
        for length in (1, 3, 60):
            for _ in range(40):
                first, second = [
                    tuple(chosen.randrange(-10 ** length, 10 ** length + 1) for _ in range(4)) for _ in range(2)]
                a, b, c, d = first
                e, f, g, h = second
                found = square_product(first, second)
                self.assertEqual(found, (
                    a * e + b * f + c * g + d * h, a * f - b * e + c * h - d * g,
                    a * g - b * h - c * e + d * f, a * h + b * g - c * f - d * e))
                self.assertEqual(squares(found), squares(first) * squares(second))

    def test_one_pair(self):
        self.assertEqual(square_product((1, 2, 3, 4), (5, 6, 7, 8)), (70, -8, 0, -16))
        self.assertEqual(square_product((0, 0, 0, 0), (5, -6, 7, 8)), (0, 0, 0, 0))
        self.assertEqual(square_product((-1, 0, 0, 0), (5, -6, 7, 8)), (-5, 6, -7, -8))


if __name__ == "__main__":
    unittest.main()
