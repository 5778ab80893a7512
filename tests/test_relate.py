"""7.12: less, the same rest, either, and not zero."""

import itertools
import unittest

from runroots.poly import constant, unknown
from runroots.relate import either, less, not_zero, same_rest
from runroots.relations import holds
from tests.formulas import polynomial, relation

X, Y, M = unknown("x"), unknown("y"), unknown("m")
# More than the further unknowns need where the numbers are less than ten.
ROOM = range(100)


def some_hold(found, values, names):
    """Return whether the relations hold for some values of the further unknowns."""
    return any(
        all(holds(one, {**values, **dict(zip(names, further))}) for one in found)
        for further in itertools.product(ROOM if len(names) < 2 else range(11), repeat=len(names)))


class Less(unittest.TestCase):
    def test_the_relation(self):
        self.assertEqual(less(X, Y, "w"), [relation("x + 1 + w = y")])
        self.assertEqual(less(polynomial("x * x - 3"), constant(2), "w"), [relation("x * x - 3 + 1 + w = 2")])
        self.assertEqual(less(constant(3), constant(9), "n1"), [relation("4 + n1 = 9")])

    def test_the_condition(self):
        found = less(polynomial("2 * x - 5"), polynomial("y - 3"), "w")
        for x, y in itertools.product(range(10), repeat=2):
            self.assertEqual(some_hold(found, {"x": x, "y": y}, ["w"]), 2 * x - 5 < y - 3, (x, y))


class SameRest(unittest.TestCase):
    def test_the_relation(self):
        self.assertEqual(same_rest(X, Y, M, "v", "w"), [relation("x + m * v = y + m * w")])
        self.assertEqual(same_rest(X, constant(1), constant(3), "v", "w"), [relation("x + 3 * v = 1 + 3 * w")])
        self.assertEqual(same_rest(polynomial("x * y"), X, polynomial("y + 2"), "w", "v"),
                         [relation("x * y + (y + 2) * w = x + (y + 2) * v")])

    def test_the_condition(self):
        found = same_rest(X, Y, M, "v", "w")
        for x, y, m in itertools.product(range(8), range(8), range(5)):
            divides = (x - y) % m == 0 if m else x == y
            self.assertEqual(some_hold(found, {"x": x, "y": y, "m": m}, ["v", "w"]), divides, (x, y, m))


class Either(unittest.TestCase):
    def test_the_relation(self):
        self.assertEqual(either(X, Y), [relation("x * y = 0")])
        self.assertEqual(either(polynomial("x - 2"), polynomial("y - x + 1")), [relation("(x - 2) * (y - x + 1) = 0")])
        self.assertEqual(either(X, {}), [("zero", {})])

    def test_the_condition(self):
        found = either(polynomial("x - 2"), polynomial("y - x"))
        for x, y in itertools.product(range(8), repeat=2):
            self.assertEqual(some_hold(found, {"x": x, "y": y}, []), x == 2 or x == y)


class NotZero(unittest.TestCase):
    def test_the_relation(self):
        self.assertEqual(not_zero(X, "w"), [relation("x * x = w + 1")])
        self.assertEqual(not_zero(polynomial("x - 2 * y"), "w"), [relation("(x - 2 * y) * (x - 2 * y) = w + 1")])
        self.assertEqual(not_zero({}, "w"), [relation("0 = w + 1")])

    def test_the_condition(self):
        found = not_zero(polynomial("x - y"), "w")
        for x, y in itertools.product(range(10), repeat=2):
            self.assertEqual(some_hold(found, {"x": x, "y": y}, ["w"]), x != y)


class NothingChanges(unittest.TestCase):
    def test_arguments_stay_and_lists_are_new(self):
        first, second, modulus = polynomial("x - 3"), polynomial("y + 1"), polynomial("m * m")
        for make in (lambda: less(first, second, "w"), lambda: same_rest(first, second, modulus, "v", "w"),
                     lambda: either(first, second), lambda: not_zero(first, "w")):
            kept = make()
            self.assertEqual(len(kept), 1)
            changed = make()
            changed[0][1].clear()
            changed.clear()
            self.assertEqual(make(), kept)
        self.assertEqual((first, second, modulus), (polynomial("x - 3"), polynomial("y + 1"), polynomial("m * m")))


if __name__ == "__main__":
    unittest.main()
