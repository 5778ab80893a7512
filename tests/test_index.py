"""6.2 to 6.5, 6.10 and 6.11: the thirteen numbers that force an index."""

import itertools
import math
import unittest

from runroots.index import digits_needed, is_witness, witnesses
from runroots.relations import row_member

NAMES = "xyuvstbrpqcde"
EXAMPLE = {"x": 2, "y": 1, "u": 7, "v": 4, "s": 9, "t": 1, "b": 9, "r": 3, "p": 2, "q": 1, "c": 1, "d": 0, "e": 0}
PLACES = [(k, a) for a in (2, 3, 4, 5, 6, 7, 9, 13, 17) for k in (1, 2, 3)] + [(4, 2), (5, 2), (4, 3), (1, 10 ** 40)]


def slow_pair(n, a):
    """Return the pair of a with the index n, from one pair to the next."""
    x, y, u, v = 1, 0, a, 1
    for _ in range(n):
        x, y, u, v = u, v, 2 * a * u - x, 2 * a * v - y
    return x, y


def numbers_for(k, a, n, b, j):
    """Return the numbers for an index n, a base b and an index j, with rests left out where a division has one."""
    (x, y), (u, v), (s, t) = slow_pair(k, a), slow_pair(n, a), slow_pair(j, b)
    return {"x": x, "y": y, "u": u, "v": v, "s": s, "t": t, "b": b, "r": v // (y * y) - 1, "p": (b - 1) // (4 * y),
            "q": (b - a) // u, "c": (s - x) // u, "d": (t - k) // (4 * y), "e": y - k}


def least_base(a, u, y, at_least):
    """Return the least number from some number on that leaves the rest 1 by 4 * y and that of a by u."""
    b = at_least + (a - at_least) % u
    while b % (4 * y) != 1:
        b = b + u
    return b


def slow_witnesses(k, a):
    _, y = slow_pair(k, a)
    n = 2 * k * y
    return numbers_for(k, a, n, least_base(a, slow_pair(n, a)[0], y, a), k)


def satisfies(k, a, values):
    """Return whether the nine equations of 6.2 hold."""
    x, y, u, v, s, t, b, r, p, q, c, d, e = [values[name] for name in NAMES]
    return (
        x * x - (a * a - 1) * y * y == 1 and u * u - (a * a - 1) * v * v == 1 and
        s * s - (b * b - 1) * t * t == 1 and v == (r + 1) * y * y and b == 1 + 4 * p * y and
        b == a + q * u and s == x + c * u and t == k + 4 * d * y and y == k + e)


class Witnesses(unittest.TestCase):
    def test_the_example(self):
        self.assertEqual(witnesses(1, 2), EXAMPLE)
        self.assertEqual(slow_witnesses(1, 2), EXAMPLE)

    def test_small_indexes_and_bases(self):
        for k, a in PLACES:
            values = witnesses(k, a)
            self.assertTrue(values == slow_witnesses(k, a), (k, a))
            self.assertTrue(satisfies(k, a, values), (k, a))

    def test_the_base_may_be_the_first_one(self):
        values = witnesses(1, 5)
        self.assertEqual((values["b"], values["q"], values["s"], values["u"]), (5, 0, 5, 49))

    def test_the_kinds(self):
        values = witnesses(2, 3)
        self.assertEqual(list(values), list(NAMES))
        self.assertEqual({type(number) for number in values.values()}, {int})
        values["x"] = 5
        self.assertNotEqual(witnesses(2, 3)["x"], 5)

    def test_a_long_one(self):
        values = witnesses(6, 2)
        self.assertTrue(satisfies(6, 2, values))
        self.assertTrue(is_witness(6, 2, values))
        self.assertEqual(values["b"], least_base(2, values["u"], values["y"], 2))


class IsWitness(unittest.TestCase):
    def test_witnesses(self):
        for k, a in PLACES:
            values = witnesses(k, a)
            kept = dict(values)
            self.assertIs(is_witness(k, a, values), True, (k, a))
            self.assertTrue(values == kept)
            self.assertIs(is_witness(k, a, dict(sorted(values.items()))), True)

    def test_one_number_changed_by_a_little(self):
        for k, a in PLACES[:9] + [(5, 2)]:
            values = witnesses(k, a)
            for name, change in itertools.product(NAMES, (-2, -1, 1, 2, 4, values["y"], values["u"])):
                changed = dict(values, **{name: values[name] + change})
                wanted = changed[name] >= 0 and satisfies(k, a, changed)
                self.assertIs(is_witness(k, a, changed), wanted, (k, a, name, change))

    def test_two_numbers_changed(self):
        values = witnesses(2, 2)
        for first, second in itertools.combinations(NAMES, 2):
            for change, other in itertools.product((-1, 1), repeat=2):
                changed = dict(values, **{first: values[first] + change, second: values[second] + other})
                wanted = min(changed.values()) >= 0 and satisfies(2, 2, changed)
                self.assertIs(is_witness(2, 2, changed), wanted, (first, second))

    def test_each_equation_matters(self):
        """For each equation there are numbers for which it alone does not hold."""
        cases = [
            dict(EXAMPLE, x=9, c=0),
            dict(EXAMPLE, u=1, q=7, c=7),
            dict(EXAMPLE, s=16, c=2),
            dict(EXAMPLE, r=4),
            dict(EXAMPLE, p=3),
            dict(EXAMPLE, q=2),
            dict(EXAMPLE, c=2),
            dict(EXAMPLE, d=1),
            dict(EXAMPLE, e=1),
        ]
        for index, changed in enumerate(cases):
            x, y, u, v, s, t, b, r, p, q, c, d, e = [changed[name] for name in NAMES]
            sides = [
                x * x - 3 * y * y == 1, u * u - 3 * v * v == 1, s * s - (b * b - 1) * t * t == 1,
                v == (r + 1) * y * y, b == 1 + 4 * p * y, b == 2 + q * u, s == x + c * u, t == 1 + 4 * d * y,
                y == 1 + e]
            self.assertEqual([place for place, side in enumerate(sides) if not side], [index])
            self.assertIs(is_witness(1, 2, changed), False, index)

    def test_wrong_names_and_values(self):
        for name in NAMES:
            missing = {key: number for key, number in EXAMPLE.items() if key != name}
            self.assertIs(is_witness(1, 2, missing), False, name)
            self.assertIs(is_witness(1, 2, {**missing, name.upper(): EXAMPLE[name]}), False, name)
            for wrong in (-EXAMPLE[name] - 1, True, False, None, str(EXAMPLE[name]), [], float(EXAMPLE[name])):
                self.assertIs(is_witness(1, 2, dict(EXAMPLE, **{name: wrong})), False, (name, wrong))
        self.assertIs(is_witness(1, 2, dict(EXAMPLE, k=1)), False)
        self.assertIs(is_witness(1, 2, {**EXAMPLE, None: 1}), False)
        # Integers with the other sign would satisfy the equations, but are not from 0 on.
        self.assertTrue(satisfies(1, 2, dict(EXAMPLE, u=-7, q=-1, c=-1)))
        self.assertIs(is_witness(1, 2, dict(EXAMPLE, u=-7, q=-1, c=-1)), False)

    def test_what_is_no_dict(self):
        for wrong in (None, True, 13, "xyuvstbrpqcde", list(NAMES), tuple(EXAMPLE.items()), [2] * 13, {}, set(NAMES)):
            self.assertIs(is_witness(1, 2, wrong), False, wrong)

    def test_an_index_or_a_base_out_of_range(self):
        # The index -1 has numbers that satisfy the equations, as the index 7 leaves the rest -1 by 4 * 2.
        values = numbers_for(1, 2, 2, 9, 7)
        turned = dict(values, d=(values["t"] + 1) // 4, e=2)
        self.assertTrue(satisfies(-1, 2, turned))
        self.assertIs(is_witness(-1, 2, turned), False)
        ones = dict.fromkeys(NAMES, 0) | dict.fromkeys("xyuvstb", 1)
        self.assertTrue(satisfies(1, 1, ones))
        self.assertIs(is_witness(1, 1, ones), False)
        self.assertIs(is_witness(0, 2, EXAMPLE), False)

    def test_true_is_not_one(self):
        ones = [name for name in NAMES if EXAMPLE[name] == 1]
        self.assertEqual(ones, ["y", "t", "q", "c"])
        for name in ones:
            self.assertIs(is_witness(1, 2, dict(EXAMPLE, **{name: True})), False)

    def test_another_index_or_base(self):
        for k, a in PLACES[:9]:
            values = witnesses(k, a)
            for other in range(1, 2 * values["y"] + 2):
                self.assertIs(is_witness(other, a, values), other == k, (k, a, other))
            for other in range(2, 20):
                self.assertIs(is_witness(k, other, values), other == a, (k, a, other))


class OtherNumbers(unittest.TestCase):
    """6.3: whoever chose the numbers, they pass for the index of y alone."""

    def candidates(self, i, a):
        """Yield numbers for the pair with the index i: other multiples for n, other bases, other indexes of it."""
        y = slow_pair(i, a)[1]
        for n in (i * y, 2 * i * y, 3 * i * y, 4 * i * y):
            u = slow_pair(n, a)[0]
            if math.gcd(u, 4 * y) == 1:
                first = least_base(a, u, y, a)
                for b, j in itertools.product((first, first + 4 * y * u, first + 12 * y * u), range(1, 8)):
                    yield n, b, j

    def test_they_pass_for_its_index(self):
        passed = {}
        for i, a in ((1, 2), (1, 3), (2, 2), (2, 3), (3, 2)):
            for n, b, j in self.candidates(i, a):
                values = numbers_for(i, a, n, b, j)
                if min(values.values()) >= 0:
                    self.assertIs(is_witness(i, a, values), satisfies(i, a, values), (i, a, n, b, j))
                    passed[i, a] = passed.get((i, a), 0) + is_witness(i, a, values)
        self.assertEqual(sorted(passed), [(1, 2), (1, 3), (2, 2), (2, 3), (3, 2)])
        self.assertTrue(min(passed.values()) >= 6, passed)

    def test_they_pass_for_no_other_index(self):
        for i, a in ((1, 2), (1, 3), (2, 2), (2, 3), (3, 2)):
            y = row_member(i, a)
            for n, b, j in self.candidates(i, a):
                values = numbers_for(i, a, n, b, j)
                for k in range(1, y + 3):
                    # The two numbers that the index stands beside are fitted to it, as well as they can be.
                    fitted = dict(values, d=max(0, (values["t"] - k) // (4 * y)), e=max(0, y - k))
                    if k != i and min(fitted.values()) >= 0:
                        self.assertIs(is_witness(k, a, fitted), False, (i, a, n, b, j, k))


class DigitsNeeded(unittest.TestCase):
    def digits(self, k, a):
        greatest, count, power = max(slow_witnesses(k, a).values()), 0, 1
        while power <= greatest:
            count, power = count + 1, power * 10
        return count

    def test_small_ones(self):
        self.assertEqual(digits_needed(1, 2), 1)
        self.assertEqual(digits_needed(1, 5), 2)
        for k, a in PLACES:
            self.assertEqual(digits_needed(k, a), self.digits(k, a), (k, a))

    def test_around_powers_of_ten(self):
        for a in range(2, 2000):
            self.assertEqual(digits_needed(1, a), self.digits(1, a), a)
        self.assertEqual({digits_needed(1, a) for a in range(2, 2000)}, {1, 2, 3, 4, 5, 6, 7, 8})

    def test_they_grow_fast(self):
        self.assertEqual([digits_needed(k, 2) for k in range(1, 7)], [1, 21, 159, 1035, 5990, 32142])


if __name__ == "__main__":
    unittest.main()
