"""5.1 to 5.5, and the first half of 5.11: rows, pairs and ranks."""

import faulthandler
import itertools
import math
import unittest

from runroots.pairs import added, index_of, pair, pair_rest, rank, taken
from runroots.relations import row_member

BASES = (2, 3, 4, 7, 10, 100)
LONG = 10 ** 80 + 3


def slow_pairs(count, a):
    """Return the first pairs of a, each from the two before it."""
    pairs = [(1, 0), (a, 1)]
    while len(pairs) < count:
        (x, y), (u, v) = pairs[-2:]
        pairs.append((2 * a * u - x, 2 * a * v - y))
    return pairs[:count]


def slow_rest(n, a, m):
    """Return the pair with the index n, reduced, by powers of the step from one pair to the next."""
    step, whole = (a, a * a - 1, 1, a), (1, 0, 0, 1)
    while n:
        if n % 2:
            whole = product(whole, step, m)
        step, n = product(step, step, m), n // 2
    return whole[0] % m, whole[2] % m


def product(first, second, m):
    a, b, c, d = first
    e, f, g, h = second
    return (a * e + b * g) % m, (a * f + b * h) % m, (c * e + d * g) % m, (c * f + d * h) % m


class Pair(unittest.TestCase):
    def test_the_example(self):
        self.assertEqual([pair(n, 2) for n in range(5)], [(1, 0), (2, 1), (7, 4), (26, 15), (97, 56)])

    def test_the_first_pairs(self):
        for a in BASES + (LONG,):
            wanted = slow_pairs(60, a)
            self.assertEqual([pair(n, a) for n in range(60)], wanted)
            self.assertEqual([row_member(n, a) for n in range(60)], [y for _, y in wanted])

    def test_a_great_index(self):
        self.assertEqual(pair(2345, 5), slow_pairs(2346, 5)[-1])

    def test_the_kinds(self):
        for n in (0, 1, 2, 9):
            self.assertIsInstance(pair(n, 3), tuple)
            self.assertEqual([type(number) for number in pair(n, 3)], [int, int])


class AddedAndTaken(unittest.TestCase):
    def test_added(self):
        for a in BASES + (LONG,):
            pairs = slow_pairs(24, a)
            for m, n in itertools.product(range(12), repeat=2):
                self.assertEqual(added(pairs[m], pairs[n], a), pairs[m + n])

    def test_taken(self):
        for a in BASES + (LONG,):
            pairs = slow_pairs(13, a)
            for m, n in itertools.product(range(13), repeat=2):
                if n <= m:
                    self.assertEqual(taken(pairs[m], pairs[n], a), pairs[m - n])

    def test_the_formulas(self):
        self.assertEqual(added((3, 5), (7, 11), 2), (3 * 7 + 3 * 5 * 11, 3 * 11 + 5 * 7))
        self.assertEqual(taken((3, 5), (7, 11), 2), (3 * 7 - 3 * 5 * 11, 5 * 7 - 3 * 11))


class IndexOf(unittest.TestCase):
    def test_pairs(self):
        for a in BASES + (LONG,):
            for n, one in enumerate(slow_pairs(50, a)):
                index = index_of(one, a)
                self.assertEqual(index, n)
                self.assertIs(type(index), int)
        self.assertEqual(index_of(pair(4321, 3), 3), 4321)
        self.assertEqual(index_of(pair(12, LONG ** 5), LONG ** 5), 12)

    def test_tuples_beside_pairs(self):
        for a in BASES + (LONG,):
            pairs = slow_pairs(12, a)
            for (x, y), i, j in itertools.product(pairs, (-1, 0, 1), (-1, 0, 1)):
                if (x + i, y + j) not in pairs:
                    self.assertIsNone(index_of((x + i, y + j), a))
            for (x, _), (_, y) in itertools.product(pairs, pairs):
                if (x, y) not in pairs:
                    self.assertIsNone(index_of((x, y), a))

    def test_negative_numbers(self):
        for a in (2, 5, LONG):
            for x, y in slow_pairs(9, a):
                self.assertIsNone(index_of((-x, y), a))
                if y:
                    self.assertIsNone(index_of((x, -y), a))
                    self.assertIsNone(index_of((-x, -y), a))
        self.assertIsNone(index_of((-1, 0), 2))

    def test_small_tuples(self):
        for a in (2, 3, 5):
            pairs = slow_pairs(9, a)
            for x, y in itertools.product(range(-20, 110), range(-20, 70)):
                right = x >= 0 and y >= 0 and x * x - (a * a - 1) * y * y == 1
                self.assertEqual(index_of((x, y), a), pairs.index((x, y)) if right else None)

    def test_pairs_of_another_base(self):
        for n in range(2, 9):
            self.assertIsNone(index_of(pair(n, 3), 2))
            self.assertIsNone(index_of(pair(n, 2), 3))
        # The pairs of 7 are every second one of those of 2, but with another y.
        self.assertIsNone(index_of((7, 1), 2))
        self.assertEqual(index_of((7, 1), 7), 1)
        self.assertEqual(index_of((7, 4), 2), 2)


class PairRest(unittest.TestCase):
    def test_small_indexes(self):
        for a, m in itertools.product(BASES + (LONG,), (1, 2, 3, 4, 12, 97, 1000, 10 ** 50)):
            for n, (x, y) in enumerate(slow_pairs(40, a)):
                self.assertEqual(pair_rest(n, a, m), (x % m, y % m))

    def test_long_indexes(self):
        faulthandler.dump_traceback_later(60, exit=True)
        for n in (10 ** 3000, 10 ** 4000 + 12345, 7 ** 5000):
            for a, m in itertools.product((2, 10, LONG), (1, 2, 97, 10 ** 9 + 7, 3 ** 100)):
                self.assertEqual(pair_rest(n, a, m), slow_rest(n, a, m))
        faulthandler.cancel_dump_traceback_later()

    def test_the_rest_of_one(self):
        for n in (0, 1, 10 ** 100):
            self.assertEqual(pair_rest(n, 2, 1), (0, 0))


class Rank(unittest.TestCase):
    def test_the_example(self):
        self.assertEqual(rank(2, 5), 3)

    def test_small_numbers(self):
        for a in BASES:
            members = [y for _, y in slow_pairs(150, a)]
            for m in range(1, 60):
                wanted = next(n for n in range(1, 150) if members[n] % m == 0)
                self.assertEqual(rank(a, m), wanted)

    def test_one_and_the_members_themselves(self):
        for a in BASES + (LONG,):
            self.assertEqual(rank(a, 1), 1)
        for n in range(1, 7):
            self.assertEqual(rank(2, pair(n, 2)[1]), n)

    def test_great_numbers(self):
        for a in (2, 3, 999, LONG):
            for m in (4096, 4093, 4999, 5000, 3 ** 7, 2 * 3 * 5 * 7 * 11):
                n = rank(a, m)
                self.assertGreaterEqual(n, 1)
                self.assertEqual(pair_rest(n, a, m)[1], 0)
                # The indexes that m divides are the multiples of the rank: so no proper divisor is one.
                for factor in range(2, n + 1):
                    if n % factor == 0:
                        self.assertNotEqual(pair_rest(n // factor, a, m)[1], 0)


class Sentences(unittest.TestCase):
    """5.5, sentence by sentence."""

    def test_members_are_great(self):
        for a in BASES:
            pairs = slow_pairs(32, a)
            for n in range(31):
                self.assertGreaterEqual(pair(n, a)[1], n)
                self.assertGreaterEqual(pair(n + 1, a)[1], (2 * a - 1) ** n)
                self.assertEqual(math.gcd(*pairs[n]), 1)

    def test_rests_by_the_base(self):
        for a, n in itertools.product(BASES, range(40)):
            self.assertEqual(pair(n, a)[1] % (a - 1), n % (a - 1))
        for a, b, n in itertools.product((2, 5, 9), (2, 3, 12, 30), range(12)):
            for m in range(1, abs(a - b) + 1):
                if (a - b) % m == 0:
                    self.assertEqual(pair_rest(n, a, m), pair_rest(n, b, m))

    def test_what_divides_members(self):
        for a in (2, 3, 5):
            for m, n in itertools.product(range(1, 8), range(60)):
                y, member = pair(m, a)[1], pair(n, a)[1]
                self.assertIs(member % y == 0, n % m == 0)
                self.assertIs(member % (y * y) == 0, n % (m * y) == 0)
            for k, n in itertools.product(range(1, 30), range(60)):
                self.assertIs(pair(n, a)[1] % k == 0, n % rank(a, k) == 0)

    def test_squares_of_members_divide(self):
        for a, m in itertools.product((2, 3), range(1, 5)):
            y = pair(m, a)[1]
            self.assertEqual(pair_rest(m * y, a, y * y)[1], 0)
            for n in range(m, m * y, m):
                self.assertNotEqual(pair_rest(n, a, y * y)[1], 0)

    def test_even_members(self):
        for a, n in itertools.product(BASES, range(40)):
            self.assertEqual(pair(n, a)[1] % 2, n % 2)

    def test_rests_by_the_other_row(self):
        for a, n in itertools.product((2, 3, 6), range(1, 7)):
            m = pair(n, a)[0]
            for i, j in itertools.product(range(1, n + 1), range(60)):
                same = pair_rest(j, a, m)[0] == pair_rest(i, a, m)[0]
                self.assertIs(same, (j - i) % (4 * n) == 0 or (-j - i) % (4 * n) == 0)

    def test_powers_are_rests(self):
        for a, x, n in itertools.product((2, 3, 8, 50), range(1, 12), range(12)):
            k = 2 * a * x - x * x - 1
            if k > 0:
                first, second = pair(n, a)
                self.assertEqual((first - second * (a - x) - x ** n) % k, 0)


if __name__ == "__main__":
    unittest.main()
