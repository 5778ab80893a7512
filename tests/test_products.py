"""7.5 to 7.7, and 7.13 as far as it speaks of the product stair."""

import copy
import itertools
import random
import unittest

from runroots.errors import BadSystem, BadValues, NotSolution
from runroots.poly import constant, degree, scaled, times, unknown
from runroots.products import ProductStair
from runroots.rowstair import RowStair
from runroots.system import System, check
from tests.formulas import polynomial, relation, relations


def example():
    return System(["x", "y"], [relation("x * x * x * y = 8")])


def slow_stair(system, stem):
    """Return the pairs and the relations below as [7.5] and [7.6] tell them."""
    pairs, shortened = [], []
    for _, terms in system.relations:
        sums = {}
        for monomial in sorted(terms):
            names = list(monomial)
            while len(names) > 2:
                first, second = names.pop(0), names.pop(0)
                if (first, second) not in pairs:
                    pairs.append((first, second))
                names.insert(0, stem + str(pairs.index((first, second))))
            key = tuple(sorted(names))
            sums[key] = sums.get(key, 0) + terms[monomial]
        shortened.append(("zero", sums))
    products = [relation(f"{stem}{at} = {first} * {second}") for at, (first, second) in enumerate(pairs)]
    return pairs, tuple(products + shortened)


class TheLowerSystem(unittest.TestCase):
    def test_the_example(self):
        stair = ProductStair(example())
        self.assertIsInstance(stair.lower, System)
        self.assertEqual(stair.pairs(), [("x", "x"), ("q0", "x")])
        self.assertEqual(stair.lower.unknowns, ("x", "y", "q0", "q1"))
        self.assertEqual(stair.lower.relations, relations("q0 = x * x\nq1 = q0 * x\nq1 * y = 8"))

    def test_the_names_in_their_order(self):
        stair = ProductStair(System(["x", "y", "z"], [relation("x * x * y * z = 1")]))
        self.assertEqual(stair.pairs(), [("x", "x"), ("q0", "y")])
        self.assertEqual(stair.lower.relations, relations("q0 = x * x\nq1 = q0 * y\nq1 * z = 1"))

    def test_names_before_and_behind_the_witnesses(self):
        """A witness stands in front of what is left, and is sorted only when two names are left."""
        stair = ProductStair(System(["a", "b", "z"], [relation("a * a * a * b * b * z = 1"), relation("z*z*z = 1")]))
        self.assertEqual(stair.pairs(), [("a", "a"), ("q0", "a"), ("q1", "b"), ("q2", "b"), ("z", "z")])
        self.assertEqual(stair.lower.relations[-2:], (
            ("zero", {(): -1, ("q3", "z"): 1}), ("zero", {(): -1, ("q4", "z"): 1})))
        self.assertEqual(stair.lower.relations[1], ("zero", {("q1",): 1, ("a", "q0"): -1}))
        stair = ProductStair(System(["a", "b"], [relation("a * a * b = 1")]))
        self.assertEqual(stair.lower.relations[1], ("zero", {(): -1, ("b", "q0"): 1}))

    def test_pairs_are_shared_within_a_polynomial(self):
        stair = ProductStair(System(["x", "y", "z"], [relation("x*x*y + 2*x*x*z + x*x*x*x + x*y*z = 7")]))
        # The monomials in ascending order are xxxx, xxy, xxz and xyz.
        self.assertEqual(stair.pairs(), [("x", "x"), ("q0", "x"), ("x", "y")])
        self.assertEqual(stair.lower.relations[-1], relation("q0 * y + 2 * q0 * z + q1 * x + q2 * z = 7"))

    def test_pairs_are_shared_between_relations(self):
        stair = ProductStair(System(["x", "y"], list(relations(
            "y * y * y = x\nx * y * y = 1\nx + y = 2\nx * x * y = 3\nx * y * y * y = 4\ny * y * y * y * y = 5"))))
        self.assertEqual(stair.pairs(), [
            ("y", "y"), ("x", "y"), ("x", "x"), ("q1", "y"), ("q0", "y"), ("q4", "y")])
        self.assertEqual(stair.lower.relations[6:], relations(
            "q0 * y = x\nq1 * y = 1\nx + y = 2\nq2 * y = 3\nq3 * y = 4\nq5 * y = 5"))

    def test_the_same_names_in_the_other_order(self):
        """Among the unknowns a witness can come before a name or behind it, but a pair begins with it."""
        upper = System(["a", "z"], list(relations("a * a * a * a = 1\na * a * a * z = 1\na * z * z * z = 1")))
        stair = ProductStair(upper)
        self.assertEqual(stair.pairs(), [("a", "a"), ("q0", "a"), ("a", "z"), ("q2", "z")])
        upper = System(["q", "a", "z"], list(relations("a * z * z = 1\na * a * z = 1")))
        self.assertEqual(ProductStair(upper).pairs(), [("a", "z"), ("a", "a")])
        self.assertNotIn(("z", "a"), ProductStair(upper).pairs())

    def test_the_monomials_in_ascending_order(self):
        for order in itertools.permutations([("b", "b", "b"), ("a", "b", "b"), ("a", "a", "b"), ()]):
            stair = ProductStair(System(["b", "a"], [("zero", {monomial: 1 for monomial in order})]))
            self.assertEqual(stair.pairs(), [("a", "a"), ("a", "b"), ("b", "b")])

    def test_short_monomials_stay(self):
        upper = System(["x", "y"], list(relations("x * y = 4\nx - y = 0\nx * x = 4\n4 - 4 = 0\n5 = 1")))
        stair = ProductStair(upper)
        self.assertEqual(stair.pairs(), [])
        self.assertEqual((stair.lower.unknowns, stair.lower.relations), (upper.unknowns, upper.relations))
        self.assertEqual(ProductStair(System([], [])).lower.relations, ())

    def test_coefficients_stay(self):
        stair = ProductStair(System(["x"], [("zero", {("x",) * 5: -7, ("x",) * 3: 10 ** 40, ("x",): 3, (): -1})]))
        self.assertEqual(stair.lower.relations[-1][1], {
            ("q2", "x"): -7, ("q0", "x"): 10 ** 40, ("x",): 3, (): -1})

    def test_against_the_words(self):
        chosen = random.Random(4)
        for _ in range(60):
            some = []
            for _ in range(3):
                terms = {tuple(sorted(chosen.choices("abxyz", k=chosen.randrange(9)))): chosen.randrange(1, 9)
                         for _ in range(6)}
                some.append(("zero", terms))
            upper = System(list("zyxba"), some)
            stair = ProductStair(upper)
            pairs, wanted = slow_stair(upper, "q")
            self.assertEqual(stair.pairs(), pairs)
            self.assertEqual(stair.lower.relations, wanted)
            self.assertEqual(stair.lower.unknowns, (*"zyxba", *(f"q{at}" for at in range(len(pairs)))))
            self.assertTrue(max(degree(one[1]) for one in stair.lower.relations) <= 2)

    def test_names_that_begin_with_the_letter(self):
        for name, stem in (("q", "qq"), ("q0", "qq"), ("qq7", "qqq"), ("Q", "q"), ("xq", "q"), ("qqqqq", "qqqqqq")):
            stair = ProductStair(System([name, "y"], [relation(f"{name} * {name} * y = 1")]))
            self.assertEqual(stair.lower.unknowns, (name, "y", f"{stem}0"))
            self.assertEqual(stair.lower.relations, relations(f"{stem}0 = {name} * {name}\n{stem}0 * y = 1"))

    def test_more_than_ten_witnesses(self):
        stair = ProductStair(System(["x"], [("zero", {("x",) * 14: 1})]))
        self.assertEqual(stair.lower.unknowns, ("x", *(f"q{at}" for at in range(12))))
        self.assertEqual(stair.pairs()[-2:], [("q9", "x"), ("q10", "x")])
        self.assertEqual(stair.lower.relations[-1], relation("q11 * x = 0"))

    def test_another_relation(self):
        for word in ("under ; x ; y", "power ; x ; y ; 1", "row ; x ; y ; 2"):
            for some in ([word], ["x = y", word], [word, "x = y"]):
                with self.assertRaises(BadSystem):
                    ProductStair(System(["x", "y"], [relation(text) for text in some]))

    def test_no_stem_is_free(self):
        for some in ([], [relation("x = 0")], [relation("x * x * x = 0")]):
            with self.assertRaises(BadSystem):
                ProductStair(System(["x", "qqqqqq"], some))

    def test_names_that_are_too_long(self):
        # Behind six letters a number has room for six digits, so a long monomial needs too many witnesses.
        upper = System(["qqqqq", "x"], [("zero", {("x",) * 100003: 1})])
        self.assertEqual(ProductStair(upper).lower.unknowns[-1], "qqqqqq100000")
        upper = System(["qqqqq", "x"], [("zero", {("x",) * 1000003: 1})])
        with self.assertRaises(BadSystem):
            ProductStair(upper)

    def test_the_upper_system_stays(self):
        upper = example()
        kept = copy.deepcopy((upper.unknowns, upper.relations))
        stair = ProductStair(upper)
        self.assertIs(stair.upper, upper)
        for one in stair.lower.relations:
            one[1][("x", "x")] = 5
        self.assertEqual((upper.unknowns, upper.relations), kept)

    def test_pairs_are_new(self):
        stair = ProductStair(example())
        stair.pairs().clear()
        stair.pairs()[0] = None
        self.assertEqual(stair.pairs(), [("x", "x"), ("q0", "x")])
        self.assertEqual(stair.down({"x": 2, "y": 1}), {"x": 2, "y": 1, "q0": 4, "q1": 8})


class Down(unittest.TestCase):
    def test_the_example(self):
        stair = ProductStair(example())
        found = []
        for x, y in itertools.product(range(10), repeat=2):
            try:
                values = stair.down({"x": x, "y": y})
            except NotSolution:
                continue
            found.append((x, y))
            self.assertEqual(values, {"x": x, "y": y, "q0": x * x, "q1": x * x * x})
            self.assertEqual(check(stair.lower, values), (True, 0))
            self.assertEqual(stair.up(values), {"x": x, "y": y})
        self.assertEqual(found, [(1, 8), (2, 1)])

    def test_chains_of_products(self):
        upper = System(["a", "b", "z"], [relation("a * a * b * z * z = z * z * z * z * z")])
        stair = ProductStair(upper)
        for a, b, z in ((1, 8, 2), (2, 2, 2), (0, 5, 0), (10 ** 20, 10 ** 20, 10 ** 20)):
            values = {"a": a, "b": b, "z": z}
            below = stair.down(values)
            for name, (first, second) in zip(stair.lower.unknowns[3:], stair.pairs()):
                self.assertEqual(below[name], below[first] * below[second])
            self.assertEqual(list(below), list(stair.lower.unknowns))
            self.assertEqual(check(stair.lower, below), (True, 0))
            self.assertEqual(stair.up(below), values)

    def test_the_index_of_no_solution(self):
        stair = ProductStair(System(["x", "y"], list(relations("x * x * x = y\nx + y = 10\n2 = x"))))
        self.assertEqual(stair.down({"x": 2, "y": 8}), {"x": 2, "y": 8, "q0": 4})
        for values, index in (({"x": 2, "y": 7}, 0), ({"x": 1, "y": 1}, 1), ({"x": 3, "y": 27}, 1)):
            with self.assertRaises(NotSolution) as caught:
                stair.down(values)
            self.assertEqual(caught.exception.index, index)
        with self.assertRaises(NotSolution) as caught:
            ProductStair(System(["x"], list(relations("x = x\nx * x * x = 1")))).down({"x": 0})
        self.assertEqual(caught.exception.index, 1)

    def test_no_values(self):
        stair, good = ProductStair(example()), {"x": 2, "y": 1}
        for wrong in ({}, {"x": 2}, dict(good, z=0), dict(good, y=True), dict(good, x=-2), dict(good, x="2"), None,
                      [2, 1], stair.down(good), {"x": -2, "y": -1}):
            with self.assertRaises(BadValues, msg=repr(wrong)):
                stair.down(wrong)

    def test_nothing_changes(self):
        stair, values = ProductStair(example()), {"x": 2, "y": 1}
        stair.down(values)["x"] = 5
        self.assertEqual(values, {"x": 2, "y": 1})
        self.assertEqual(stair.down(values)["x"], 2)


class Up(unittest.TestCase):
    def test_witnesses_are_left_out(self):
        stair = ProductStair(example())
        values = stair.down({"x": 1, "y": 8})
        kept = dict(values)
        self.assertEqual(stair.up(values), {"x": 1, "y": 8})
        stair.up(values)["x"] = 5
        self.assertEqual(values, kept)

    def test_only_the_values_are_asked(self):
        stair = ProductStair(example())
        self.assertEqual(stair.up({"x": 5, "y": 6, "q0": 7, "q1": 8}), {"x": 5, "y": 6})

    def test_no_values(self):
        stair = ProductStair(example())
        good = stair.down({"x": 2, "y": 1})
        for wrong in ({}, {"x": 2, "y": 1}, dict(good, z=0), dict(good, q0=True), dict(good, q1=-2),
                      dict(good, x="2"), dict(good, q0=None), None, [2, 1, 4, 8]):
            with self.assertRaises(BadValues, msg=repr(wrong)):
                stair.up(wrong)


class Exact(unittest.TestCase):
    def test_one_solution_above_each(self):
        stair = ProductStair(System(["x", "y"], [relation("x * x * y = 4")]))
        found = [values for values in itertools.product(range(6), repeat=3)
                 if check(stair.lower, dict(zip(("x", "y", "q0"), values)))[0]]
        self.assertEqual(found, [(1, 4, 1), (2, 1, 4)])

    def test_below_a_row(self):
        rows = RowStair(System(["y", "n"], [relation("row ; y ; n ; n + 2")]))
        stair = ProductStair(rows.lower)
        self.assertTrue(max(degree(one[1]) for one in rows.lower.relations) > 2)
        self.assertTrue(max(degree(one[1]) for one in stair.lower.relations) == 2)
        for n, y in ((0, 0), (1, 1), (2, 8)):
            values = rows.down({"y": y, "n": n})
            below = stair.down(values)
            self.assertEqual(check(stair.lower, below), (True, 0))
            self.assertEqual(stair.up(below), values)
            for name in stair.lower.unknowns:
                self.assertFalse(check(stair.lower, dict(below, **{name: below[name] + 1}))[0], name)

    def test_the_polynomials_mean_the_same(self):
        chosen = random.Random(5)
        terms = polynomial("x*x*x*y - 3*x*y*y*z + z*z*z*z*z - 5*x*y + 2")
        stair = ProductStair(System(["x", "y", "z"], [("zero", terms)]))
        for _ in range(30):
            x, y, z = [chosen.randrange(20) for _ in "xyz"]
            value = x * x * x * y - 3 * x * y * y * z + z ** 5 - 5 * x * y + 2
            whole = minus_value(terms, value)
            shifted = ProductStair(System(["x", "y", "z"], [("zero", whole)]))
            self.assertEqual(shifted.pairs(), stair.pairs())
            below = shifted.down({"x": x, "y": y, "z": z})
            self.assertEqual(check(shifted.lower, below), (True, 0))


def minus_value(terms, value):
    changed = dict(terms)
    changed[()] = changed.get((), 0) - value
    return {monomial: number for monomial, number in changed.items() if number}


if __name__ == "__main__":
    unittest.main()
