"""1.5 and 1.6: relations, and whether they hold."""

import copy
import faulthandler
import itertools
import unittest

from runroots.poly import constant, minus, plus, times, unknown
from runroots.relations import equal, holds, is_relation, one_apart, row_member, zero_test
from tests.formulas import relation, relations

A, B, X, Y, Z, N = [unknown(name) for name in "abxyzn"]
HUGE = (10 ** 30, 10 ** 30 + 1, 10 ** 200)


def power_holds(z, x, y):
    return holds(("power", Z, X, Y), {"z": z, "x": x, "y": y})


def row_holds(y, n, a):
    return holds(("row", Y, N, A), {"y": y, "n": n, "a": a})


def under_holds(a, b):
    return holds(("under", A, B), {"a": a, "b": b})


def slow_row(count, a):
    members = [0, 1]
    while len(members) < count:
        members.append(2 * a * members[-1] - members[-2])
    return members[:count]


class IsRelation(unittest.TestCase):
    def test_relations(self):
        for value in (("zero", {}), ("zero", X), ("under", X, {}), ("power", Z, X, Y), ("row", Y, N, constant(2))):
            self.assertIs(is_relation(value), True, repr(value))

    def test_another_word(self):
        for word in ("", "Zero", "zero ", "one", "powers", None, 0, True, b"zero", (), ("zero",), [], {}):
            for count in range(5):
                self.assertIs(is_relation((word,) + (X,) * count), False, repr(word))

    def test_the_number_of_polynomials(self):
        for word, right in (("zero", 1), ("under", 2), ("power", 3), ("row", 3)):
            for count in range(6):
                self.assertIs(is_relation((word,) + (X,) * count), count == right, (word, count))

    def test_what_is_no_tuple(self):
        for value in (["zero", X], "zero", None, 0, True, {}, {"zero": X}, X, [], ()):
            self.assertIs(is_relation(value), False, repr(value))

    def test_what_is_no_polynomial(self):
        for wrong in (0, 2, "x", None, True, (), [], ("x",), {"x": 1}, {("x",): 0}, {("y", "x"): 1}, {(): True}):
            self.assertIs(is_relation(("zero", wrong)), False, repr(wrong))
            for place, word in itertools.product(range(3), ("power", "row")):
                members = [X, Y, Z]
                members[place] = wrong
                self.assertIs(is_relation((word, *members)), False, repr(wrong))
            self.assertIs(is_relation(("under", X, wrong)), False, repr(wrong))
            self.assertIs(is_relation(("under", wrong, X)), False, repr(wrong))


class Zero(unittest.TestCase):
    def test_zero(self):
        relation = ("zero", minus(times(X, X), Y))
        self.assertIs(holds(relation, {"x": 3, "y": 9}), True)
        self.assertIs(holds(relation, {"x": 3, "y": 8}), False)
        self.assertIs(holds(relation, {"x": 3, "y": 10}), False)
        self.assertIs(holds(("zero", {}), {}), True)
        self.assertIs(holds(("zero", constant(-1)), {}), False)
        self.assertIs(holds(("zero", X), {"x": -1}), False)
        self.assertIs(holds(relation, {"x": 10 ** 100, "y": 10 ** 200}), True)
        self.assertIs(holds(relation, {"x": 10 ** 100, "y": 10 ** 200 + 1}), False)


class Equal(unittest.TestCase):
    def test_equal(self):
        self.assertEqual(equal(X, Y), ("zero", {("x",): 1, ("y",): -1}))
        self.assertEqual(equal(constant(2), constant(2)), ("zero", {}))
        for x, y in itertools.product(range(4), repeat=2):
            self.assertIs(holds(equal(X, Y), {"x": x, "y": y}), x == y)

    def test_one_apart(self):
        self.assertEqual(one_apart(X, Y, Z), relation("x * x - (z * z - 1) * y * y = 1"))
        self.assertEqual(one_apart(X, Y, constant(2)), relation("x * x - 3 * y * y - 1 = 0"))

    def test_zero_test(self):
        self.assertEqual(tuple(zero_test(minus(X, constant(3)), Y, Z)), relations(
            "(x - 3) * y = 0\ny * y - y = 0\nx - 3 + y - 1 - z = 0"))


class Under(unittest.TestCase):
    def test_small_numbers(self):
        for a, b in itertools.product(range(-3, 20), repeat=2):
            right = a >= 0 and b >= 0 and all(b >> place & 1 for place in range(6) if a >> place & 1)
            self.assertIs(under_holds(a, b), right, (a, b))

    def test_negative_values(self):
        for a, b in ((-1, -1), (0, -1), (-1, 0), (1, -1), (-2, -1), (-4, 3), (4, -4)):
            self.assertIs(under_holds(a, b), False, (a, b))

    def test_great_numbers(self):
        self.assertIs(under_holds(2 ** 300, 2 ** 400 - 1), True)
        self.assertIs(under_holds(2 ** 400, 2 ** 400 - 1), False)

    def test_the_values_of_polynomials(self):
        self.assertIs(holds(("under", constant(1), plus(X, X)), {"x": 4}), False)
        self.assertIs(holds(("under", constant(8), plus(X, X)), {"x": 4}), True)


class Power(unittest.TestCase):
    def test_small_numbers(self):
        for z, x, y in itertools.product(range(-3, 40), range(-3, 8), range(-3, 7)):
            right = x >= 0 and y >= 0 and z == x ** y
            self.assertIs(power_holds(z, x, y), right, (z, x, y))

    def test_powers_of_zero(self):
        self.assertIs(power_holds(1, 0, 0), True)
        self.assertIs(power_holds(0, 0, 0), False)
        self.assertIs(power_holds(0, 0, 1), True)
        self.assertIs(power_holds(1, 0, 1), False)
        self.assertIs(power_holds(0, 0, 7), True)

    def test_negative_values(self):
        for z, x, y in ((-8, -2, 3), (4, -2, 2), (1, -1, 0), (-1, -1, 1), (1, 1, -1), (0, 2, -1), (1, 2, -1),
                        (-1, 0, 0), (-4, 2, 2), (0, 0, -1), (-1, 1, 1), (-(2 ** 90), 2, 90)):
            self.assertIs(power_holds(z, x, y), False, (z, x, y))

    def test_the_values_of_polynomials(self):
        relation = ("power", plus(Z, constant(1)), minus(X, constant(4)), times(Y, Y))
        self.assertIs(holds(relation, {"z": 80, "x": 7, "y": 2}), True)
        self.assertIs(holds(relation, {"z": 81, "x": 7, "y": 2}), False)
        self.assertIs(holds(relation, {"z": 80, "x": 1, "y": 2}), False)

    def test_great_powers(self):
        for x, y in ((2, 2000), (3, 1262), (4, 1000), (7, 712), (2 ** 1000, 2), (2 ** 1000 - 1, 2), (10 ** 30, 20),
                     (2 ** 2000 + 1, 1), (10 ** 600, 0)):
            z = x ** y
            self.assertIs(power_holds(z, x, y), True)
            for wrong in (z - 1, z + 1, 2 * z, z // 2, -z, x ** (y + 1)):
                self.assertIs(power_holds(wrong, x, y), False)
            self.assertIs(power_holds(z, x, y + 1), False)
            self.assertIs(power_holds(z, x + 1, y), y == 0)


class RowMember(unittest.TestCase):
    def test_the_row_of_two(self):
        self.assertEqual([row_member(n, 2) for n in range(7)], [0, 1, 4, 15, 56, 209, 780])

    def test_the_first_members(self):
        for a in list(range(1, 12)) + [10 ** 25]:
            members = slow_row(70, a)
            self.assertEqual([row_member(n, a) for n in range(70)], members)

    def test_a_great_index(self):
        self.assertEqual(row_member(1543, 3), slow_row(1544, 3)[-1])

    def test_a_great_base(self):
        a = 10 ** 300
        self.assertEqual(row_member(0, a), 0)
        self.assertEqual(row_member(1, a), 1)
        self.assertEqual(row_member(2, a), 2 * a)
        self.assertEqual(row_member(3, a), 4 * a * a - 1)


class Row(unittest.TestCase):
    def test_small_numbers(self):
        rows = {a: slow_row(6, a) for a in range(2, 6)}
        for y, n, a in itertools.product(range(-3, 60), range(-3, 6), range(-3, 6)):
            right = a >= 2 and n >= 0 and y == rows[a][n]
            self.assertIs(row_holds(y, n, a), right, (y, n, a))

    def test_a_base_below_two(self):
        for n in range(9):
            for y in range(-2, 12):
                self.assertIs(row_holds(y, n, 1), False)
                self.assertIs(row_holds(y, n, 0), False)
                self.assertIs(row_holds(y, n, -2), False)

    def test_the_first_indexes(self):
        for a in (2, 3, 10 ** 40):
            self.assertIs(row_holds(0, 0, a), True)
            self.assertIs(row_holds(1, 0, a), False)
            self.assertIs(row_holds(1, 1, a), True)
            self.assertIs(row_holds(0, 1, a), False)
            self.assertIs(row_holds(2 * a, 2, a), True)
            self.assertIs(row_holds(2 * a + 1, 2, a), False)

    def test_negative_values(self):
        for y, n, a in ((-1, -1, 2), (0, -1, 2), (1, -1, 2), (-1, 1, 2), (-4, 2, 2), (-4, -2, 2), (0, 0, -2),
                        (1, 1, -2), (-4, 2, -2)):
            self.assertIs(row_holds(y, n, a), False, (y, n, a))

    def test_the_values_of_polynomials(self):
        relation = ("row", plus(Y, Y), minus(N, constant(1)), times(A, A))
        self.assertIs(holds(relation, {"y": 31 * 8, "n": 4, "a": 2}), False)
        self.assertIs(holds(relation, {"y": 4, "n": 3, "a": 2}), True)
        self.assertIs(holds(relation, {"y": 4, "n": 4, "a": 2}), False)
        self.assertIs(holds(relation, {"y": 0, "n": 0, "a": 2}), False)

    def test_great_members(self):
        for n, a in ((1053, 2), (787, 3), (2, 2 ** 1999), (3, 2 ** 1000), (3, 2 ** 999 + 1), (4, 2 ** 700 - 1),
                     (60, 10 ** 10)):
            y = slow_row(n + 1, a)[n]
            self.assertIs(row_holds(y, n, a), True)
            for wrong in (y - 1, y + 1, 2 * y, y // 2, -y):
                self.assertIs(row_holds(wrong, n, a), False)
            for index in (n - 1, n + 1, 0, 1, -n):
                self.assertIs(row_holds(y, index, a), False)
            self.assertIs(row_holds(y, n, a + 1), False)


class AtOnce(unittest.TestCase):
    """1.6: the work does not grow with the exponent or the index."""

    def setUp(self):
        # One broken call could take for ever: then the whole run of the tests ends.
        faulthandler.dump_traceback_later(60, exit=True)

    def tearDown(self):
        faulthandler.cancel_dump_traceback_later()

    def test_powers_of_zero_and_one(self):
        for y in HUGE:
            self.assertIs(power_holds(0, 0, y), True)
            self.assertIs(power_holds(1, 1, y), True)
            for z in (-1, 1, 2, y):
                self.assertIs(power_holds(z, 0, y), False)
            for z in (-1, 0, 2, y):
                self.assertIs(power_holds(z, 1, y), False)

    def test_great_exponents(self):
        for y, x in itertools.product(HUGE, (2, 3, 10 ** 30, 10 ** 200, 2 ** 5000)):
            for z in (-y, -1, 0, 1, 2, x, x + 1, x * x, x ** 20 - 1, x ** 20, x ** 20 + 1, y, 2 ** 2000, 2 ** 100000):
                self.assertIs(power_holds(z, x, y), False)

    def test_great_bases(self):
        for x, y in itertools.product((2 ** 100000, 2 ** 100000 - 1), (2, 3, 1000, 10 ** 30)):
            for z in (0, 1, 5, 2 ** 2000, x - 1, x, x + 1):
                self.assertIs(power_holds(z, x, y), False)

    def test_a_power_that_holds(self):
        self.assertIs(power_holds(1 << 100000, 2, 100000), True)
        self.assertIs(power_holds(1 << 100000, 2, 100001), False)
        self.assertIs(power_holds(1 << 100000, 2, 99999), False)

    def test_great_indexes(self):
        for n, a in itertools.product(HUGE, (2, 3, 10 ** 30, 10 ** 200, 2 ** 5000)):
            twentieth = slow_row(21, a)[20]
            for y in (-n, -1, 0, 1, 2, 2 * a, n, twentieth - 1, twentieth, twentieth + 1, 2 ** 2000, 2 ** 100000):
                self.assertIs(row_holds(y, n, a), False)

    def test_great_indexes_of_rows_that_are_none(self):
        for n, a in itertools.product(HUGE, (-10 ** 30, -1, 0, 1)):
            for y in (-1, 0, 1, n):
                self.assertIs(row_holds(y, n, a), False)
        for n, a in itertools.product(HUGE, (2, 10 ** 30)):
            self.assertIs(row_holds(0, -n, a), False)

    def test_great_bases_of_rows(self):
        for n, a in itertools.product((3, 4, 1000, 10 ** 30), (2 ** 100000, 2 ** 100000 + 1)):
            for y in (0, 1, 5, 2 ** 2000, a, 2 * a, 2 * a + 1):
                self.assertIs(row_holds(y, n, a), False)

    def test_a_member_that_holds(self):
        y = row_member(50000, 2)
        self.assertIs(row_holds(y, 50000, 2), True)
        self.assertIs(row_holds(y, 50001, 2), False)
        self.assertIs(row_holds(y + 1, 50000, 2), False)


class NothingChanges(unittest.TestCase):
    """0.4: what is given stays as it is."""

    def test_arguments_stay(self):
        values = {"x": 3, "y": 2, "z": 9, "n": 2}
        for relation in (("zero", minus(X, Y)), ("under", X, Z), ("power", Z, X, Y), ("row", Y, N, constant(2))):
            kept = copy.deepcopy((relation, values))
            holds(relation, values)
            is_relation(relation)
            self.assertEqual((relation, values), kept)


if __name__ == "__main__":
    unittest.main()
