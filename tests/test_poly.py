"""1.1 to 1.4: names, monomials and polynomials."""

import copy
import itertools
import unittest

from runroots.poly import (
    collected, constant, degree, is_name, is_polynomial, minus, names_in, plus, power_of, replaced, scaled, sum_of,
    times, unknown, value_of,
)

X, Y, Z = unknown("x"), unknown("y"), unknown("z")
ONE, TWO = {(): 1}, {(): 2}
GREAT = 123456789012345678901234567890
SOME = [
    {},
    {(): 3},
    {(): -1, ("x",): 1},
    {("x",): 2, ("y",): -3},
    {(): 5, ("x", "x"): -2, ("x", "y"): 1, ("z",): 7},
    {("A", "b2", "x"): -4, ("x", "x", "x"): 1, (): GREAT},
    {("x", "y", "y", "z"): GREAT, ("y",): -GREAT},
]
PLACES = [{"x": x, "y": y, "z": 3, "A": -5, "b2": 11} for x in (-2, 0, 1, 10 ** 25) for y in (-1, 0, 4)]


class Names(unittest.TestCase):
    def test_names(self):
        for name in ("a", "z", "A", "Z", "x0", "a9b", "xA", "abcdefghijkl", "A12345678901"):
            self.assertIs(is_name(name), True, name)

    def test_what_is_no_name(self):
        wrong = ["", "0", "9a", "abcdefghijklm", "A123456789012", "a_b", "_a", "a b", " a", "a ", "a-b", "a.b", "a\n",
                 "a*b", "\u00e9", "a\u00e9", "a\u0661", "a\u00b2", "\u03b1", "\uff21"]
        for name in wrong:
            self.assertIs(is_name(name), False, repr(name))

    def test_values_of_other_kinds(self):
        for value in (None, 1, True, b"a", ("a",), ["a"], {"a": 1}):
            self.assertIs(is_name(value), False, repr(value))


class IsPolynomial(unittest.TestCase):
    def test_polynomials(self):
        for value in SOME + [{(): 1}, {("x",): -1}, {("a", "a", "b"): 10 ** 40}, {("abcdefghijkl",): 1}]:
            self.assertIs(is_polynomial(value), True, repr(value))

    def test_capital_letters_and_digits_come_first(self):
        self.assertTrue(is_polynomial({("B", "a"): 1}))
        self.assertFalse(is_polynomial({("a", "B"): 1}))
        self.assertTrue(is_polynomial({("x", "x0", "x10", "x2", "xA"): 1}))

    def test_monomials_that_are_none(self):
        wrong = ["x", "", None, 0, 1, frozenset(["x"]), ("y", "x"), ("x", "y", "x"), ("",), ("0",), ("a_b",),
                 ("abcdefghijklm",), ("x", 1), (1, "x"), (1,), (None,), (True,), (("x",),), ("x", ())]
        for monomial in wrong:
            self.assertIs(is_polynomial({monomial: 1}), False, repr(monomial))
            self.assertIs(is_polynomial({(): 1, monomial: 1}), False, repr(monomial))

    def test_coefficients_that_are_none(self):
        for number in (0, True, False, "1", None, 1.0, [1], ()):
            self.assertIs(is_polynomial({("x",): number}), False, repr(number))
            self.assertIs(is_polynomial({(): 2, ("x",): number}), False, repr(number))

    def test_values_that_are_no_dict(self):
        for value in ((), [], "", "x", 0, 1, None, True, [((), 1)], (("x",), 1), {()}, frozenset()):
            self.assertIs(is_polynomial(value), False, repr(value))


class Making(unittest.TestCase):
    def test_constant(self):
        self.assertEqual(constant(2), {(): 2})
        self.assertEqual(constant(-GREAT), {(): -GREAT})
        self.assertEqual(constant(0), {})

    def test_unknown(self):
        self.assertEqual(unknown("x"), {("x",): 1})
        self.assertEqual(unknown("Ab3"), {("Ab3",): 1})

    def test_plus(self):
        self.assertEqual(plus(X, Y), {("x",): 1, ("y",): 1})
        self.assertEqual(plus(X, X), {("x",): 2})
        self.assertEqual(plus({(): 1, ("x",): 2}, {(): 4, ("y",): 3}), {(): 5, ("x",): 2, ("y",): 3})
        self.assertEqual(plus({}, {}), {})
        self.assertEqual(plus(X, {}), X)
        self.assertEqual(plus({}, X), X)

    def test_plus_leaves_out_what_cancels(self):
        self.assertEqual(plus({(): 1, ("x",): 2}, {(): -1, ("x",): 1}), {("x",): 3})
        self.assertEqual(plus({("x",): GREAT}, {("x",): -GREAT}), {})

    def test_collected(self):
        self.assertEqual(collected([]), {})
        self.assertEqual(collected([(("x",), 2), ((), 1), (("x",), 3), (("y",), 4), ((), -1)]), {("x",): 5, ("y",): 4})
        self.assertEqual(collected([(("x", "y"), GREAT), (("x", "y"), -GREAT), (("x",), 0)]), {})

    def test_sum_of(self):
        self.assertEqual(sum_of([]), {})
        self.assertEqual(sum_of([X]), X)
        self.assertEqual(sum_of([X, ONE, Y, X, TWO]), {(): 3, ("x",): 2, ("y",): 1})
        self.assertEqual(sum_of([X, {("x",): -1}]), {})
        some = [dict(X), dict(Y)]
        sum_of(some)[("x",)] = 5
        sum_of(some[:1])[("x",)] = 5
        self.assertEqual(some, [X, Y])

    def test_minus(self):
        self.assertEqual(minus(X, Y), {("x",): 1, ("y",): -1})
        self.assertEqual(minus({}, X), {("x",): -1})
        self.assertEqual(minus(X, {}), X)
        self.assertEqual(minus({(): 5, ("x",): 1}, {(): 2, ("x",): 1}), {(): 3})

    def test_a_difference_with_itself_is_zero(self):
        for polynomial in SOME:
            self.assertEqual(minus(polynomial, polynomial), {})

    def test_scaled(self):
        self.assertEqual(scaled({(): -2, ("x",): 3}, -4), {(): 8, ("x",): -12})
        self.assertEqual(scaled({(): 7}, 1), {(): 7})
        self.assertEqual(scaled({(): 7, ("x",): GREAT}, 0), {})
        self.assertEqual(scaled({}, 5), {})
        self.assertEqual(scaled({("x",): GREAT}, GREAT), {("x",): GREAT * GREAT})

    def test_times(self):
        self.assertEqual(times(X, Y), {("x", "y"): 1})
        self.assertEqual(times(Y, X), {("x", "y"): 1})
        self.assertEqual(times({("a", "c"): 2}, {("B", "b", "c"): -3}), {("B", "a", "b", "c", "c"): -6})
        self.assertEqual(times({(): 3}, {("x",): GREAT}), {("x",): 3 * GREAT})
        self.assertEqual(times({}, X), {})
        self.assertEqual(times(X, {}), {})
        self.assertEqual(times(plus(X, Y), plus(X, Y)), {("x", "x"): 1, ("x", "y"): 2, ("y", "y"): 1})

    def test_times_leaves_out_what_cancels(self):
        self.assertEqual(times(plus(X, Y), minus(X, Y)), {("x", "x"): 1, ("y", "y"): -1})
        self.assertEqual(times(plus(X, ONE), minus(X, ONE)), {(): -1, ("x", "x"): 1})

    def test_power_of(self):
        self.assertEqual(power_of(plus(X, ONE), 0), ONE)
        self.assertEqual(power_of({}, 0), ONE)
        self.assertEqual(power_of({}, 1), {})
        self.assertEqual(power_of({}, 8), {})
        self.assertEqual(power_of(plus(X, Y), 1), plus(X, Y))
        self.assertEqual(power_of(X, 8), {("x",) * 8: 1})
        self.assertEqual(power_of({(): -3}, 3), {(): -27})
        row = [1, 8, 28, 56, 70, 56, 28, 8, 1]
        self.assertEqual(power_of(plus(X, ONE), 8), {("x",) * k: row[k] for k in range(9)})

    def test_power_of_beyond_the_limit(self):
        self.assertEqual(power_of(minus(X, Y), 9), times(power_of(minus(X, Y), 8), minus(X, Y)))

    def test_sums_and_products_have_the_right_values(self):
        for first, second in itertools.product(SOME, SOME):
            total, rest, product = plus(first, second), minus(first, second), times(first, second)
            for made in (total, rest, product):
                self.assertTrue(is_polynomial(made))
            for values in PLACES:
                left, right = value_of(first, values), value_of(second, values)
                self.assertEqual(value_of(total, values), left + right)
                self.assertEqual(value_of(rest, values), left - right)
                self.assertEqual(value_of(product, values), left * right)

    def test_powers_have_the_right_values(self):
        for polynomial, exponent in itertools.product(SOME, range(5)):
            made = power_of(polynomial, exponent)
            self.assertTrue(is_polynomial(made))
            for values in PLACES:
                self.assertEqual(value_of(made, values), value_of(polynomial, values) ** exponent)


class Reading(unittest.TestCase):
    def test_value_of(self):
        self.assertEqual(value_of({}, {}), 0)
        self.assertEqual(value_of({(): -4}, {}), -4)
        self.assertEqual(value_of({(): -4, ("x", "x"): 3, ("x", "y"): -1}, {"x": 5, "y": 7, "z": 9}), -4 + 75 - 35)
        self.assertEqual(value_of({("x", "x", "x"): 2}, {"x": -3}), -54)
        self.assertEqual(value_of({("x",): GREAT, (): 1}, {"x": GREAT}), GREAT * GREAT + 1)
        self.assertEqual(value_of({("x",): 1}, {"x": 0}), 0)

    def test_names_in(self):
        self.assertEqual(names_in({}), [])
        self.assertEqual(names_in({(): 1}), [])
        self.assertEqual(names_in({("z",): 1, ("b", "x"): 1, ("B", "b", "b"): 1, ("x2",): 1, ("x10",): 1}),
                         ["B", "b", "x", "x10", "x2", "z"])

    def test_degree(self):
        self.assertEqual(degree({}), -1)
        self.assertEqual(degree({(): 5}), 0)
        self.assertEqual(degree(X), 1)
        self.assertEqual(degree({("x", "x", "y"): 1, (): 1, ("z",): 1}), 3)
        self.assertEqual(degree(times(plus(X, Y), minus(X, Y))), 2)


class Replaced(unittest.TestCase):
    def test_a_name_that_occurs_once(self):
        self.assertEqual(replaced({("x", "y"): 3, (): 1}, "x", plus(Z, TWO)), {(): 1, ("y",): 6, ("y", "z"): 3})

    def test_a_name_that_occurs_several_times(self):
        self.assertEqual(replaced({("x", "x"): 1, ("x", "y"): 2}, "x", plus(Z, ONE)),
                         {(): 1, ("z",): 2, ("z", "z"): 1, ("y",): 2, ("y", "z"): 2})
        self.assertEqual(replaced({("x",) * 5: 1}, "x", {(): -2}), {(): -32})

    def test_a_name_that_does_not_occur(self):
        self.assertEqual(replaced({("x",): 2, (): 1}, "y", Z), {("x",): 2, (): 1})
        self.assertEqual(replaced({}, "y", Z), {})
        self.assertEqual(replaced({("xy",): 1}, "x", Z), {("xy",): 1})

    def test_a_polynomial_with_the_name_itself(self):
        self.assertEqual(replaced({("x", "x"): 1, ("x",): 1}, "x", plus(X, ONE)),
                         {(): 2, ("x",): 3, ("x", "x"): 1})
        self.assertEqual(replaced({("x", "y"): 1}, "x", times(X, Y)), {("x", "y", "y"): 1})

    def test_the_monomials_stay_in_order(self):
        self.assertEqual(replaced({("a", "x"): 1}, "a", Z), {("x", "z"): 1})
        self.assertEqual(replaced({("a", "x"): 1}, "x", unknown("B")), {("B", "a"): 1})

    def test_by_zero(self):
        self.assertEqual(replaced({("x", "y"): 3, ("y",): 4, (): 1}, "x", {}), {("y",): 4, (): 1})

    def test_what_cancels_is_left_out(self):
        self.assertEqual(replaced({("x",): 1, ("y",): -1}, "x", Y), {})
        self.assertEqual(replaced({("x", "x"): 1, ("x", "y"): -2, ("y", "y"): 1}, "x", plus(Y, ONE)), {(): 1})

    def test_the_values_are_right(self):
        for polynomial, other in itertools.product(SOME, SOME):
            made = replaced(polynomial, "x", other)
            self.assertTrue(is_polynomial(made))
            for values in PLACES:
                inner = dict(values, x=value_of(other, values))
                self.assertEqual(value_of(made, values), value_of(polynomial, inner))


class NothingChanges(unittest.TestCase):
    """0.4: what is given stays as it is, and what is returned is new."""

    CALLS = [
        lambda p, q: plus(p, q), lambda p, q: minus(p, q), lambda p, q: times(p, q), lambda p, q: scaled(p, 1),
        lambda p, q: scaled(p, 0), lambda p, q: power_of(p, 0), lambda p, q: power_of(p, 1),
        lambda p, q: power_of(p, 2), lambda p, q: replaced(p, "x", q), lambda p, q: replaced(p, "none", q),
        lambda p, q: plus(p, {}), lambda p, q: plus({}, p), lambda p, q: minus(p, {}), lambda p, q: times(p, ONE),
        lambda p, q: times(ONE, p), lambda p, q: replaced(X, "x", p),
    ]

    def test_arguments_stay_and_results_are_new(self):
        for first, second in itertools.product(SOME, SOME):
            kept = copy.deepcopy((first, second))
            for call in self.CALLS:
                made = call(first, second)
                self.assertEqual((first, second), kept)
                self.assertIsNot(made, first)
                self.assertIsNot(made, second)
                made[("w",)] = 1
                self.assertEqual((first, second), kept)
        self.assertEqual(ONE, {(): 1})
        self.assertEqual(X, {("x",): 1})

    def test_both_arguments_may_be_the_same(self):
        polynomial = plus(X, ONE)
        self.assertEqual(plus(polynomial, polynomial), {(): 2, ("x",): 2})
        self.assertEqual(times(polynomial, polynomial), {(): 1, ("x",): 2, ("x", "x"): 1})
        self.assertEqual(replaced(polynomial, "x", polynomial), {(): 2, ("x",): 1})
        self.assertEqual(polynomial, {(): 1, ("x",): 1})

    def test_constants_and_unknowns_are_new_each_time(self):
        constant(1)[("x",)] = 1
        unknown("x")[()] = 1
        self.assertEqual(constant(1), {(): 1})
        self.assertEqual(unknown("x"), {("x",): 1})

    def test_reading_changes_nothing(self):
        for polynomial in SOME:
            kept, values = copy.deepcopy(polynomial), dict(PLACES[0])
            value_of(polynomial, values)
            names_in(polynomial).append("w")
            degree(polynomial)
            is_polynomial(polynomial)
            self.assertEqual(polynomial, kept)
            self.assertEqual(values, PLACES[0])


class Example(unittest.TestCase):
    """1.13: its polynomials."""

    def test_the_polynomials(self):
        square = minus(times(unknown("x"), unknown("x")), constant(4))
        self.assertEqual(square, {(): -4, ("x", "x"): 1})
        self.assertEqual(constant(2), {(): 2})


if __name__ == "__main__":
    unittest.main()
