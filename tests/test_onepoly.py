"""7.7 to 7.11, and the rest of 7.13: one equation, and integers of any sign."""

import copy
import itertools
import random
import unittest

from runroots.errors import BadSystem, BadValues, NotSolution, TooGreat
from runroots.foursquares import four_squares
from runroots.onepoly import OneStair, only, signed_values, unsigned_values, with_signs
from runroots.poly import degree, value_of
from runroots.products import ProductStair
from runroots.rowstair import RowStair
from runroots.system import System, check
from tests.formulas import polynomial, relation, relations

OTHERS = ("under ; x ; y", "power ; x ; y ; 1", "row ; x ; y ; 2")


def example():
    return System(["x", "y"], [relation("x * x * x * y = 8")])


def some_system():
    return System(["z", "x", "y"], list(relations("x + y = 5\nx * y - 6 = 0\nz = 2 * x + 1")))


class TheLowerSystem(unittest.TestCase):
    def test_the_sum_of_the_squares(self):
        stair = OneStair(some_system())
        self.assertIsInstance(stair.lower, System)
        self.assertEqual(stair.lower.unknowns, ("z", "x", "y"))
        first, second, third = "(x + y - 5)", "(x * y - 6)", "(z - 2 * x - 1)"
        wanted = polynomial(f"{first} * {first} + {second} * {second} + {third} * {third}")
        self.assertEqual(stair.lower.relations, (("zero", wanted),))

    def test_the_example(self):
        stair = OneStair(ProductStair(example()).lower)
        wanted = polynomial(
            "(q0 - x * x) * (q0 - x * x) + (q1 - q0 * x) * (q1 - q0 * x) + (q1 * y - 8) * (q1 * y - 8)")
        self.assertEqual(stair.lower.relations, (("zero", wanted),))
        self.assertEqual(stair.lower.unknowns, ("x", "y", "q0", "q1"))
        self.assertEqual(degree(wanted), 4)

    def test_a_degree_of_four_at_most(self):
        for text in ("x*x*x*x*y = z*z*z*z*z", "x = y\ny*y*y = z*z*x", "x = 3", "0 = 0"):
            products = ProductStair(System(["x", "y", "z"], list(relations(text))))
            self.assertTrue(degree(only(OneStair(products.lower).lower)) <= 4)

    def test_no_and_one_relation(self):
        self.assertEqual(OneStair(System(["x"], [])).lower.relations, (("zero", {}),))
        self.assertEqual(OneStair(System([], [])).lower.unknowns, ())
        self.assertEqual(OneStair(System(["x"], [("zero", {})])).lower.relations, (("zero", {}),))
        self.assertEqual(OneStair(System(["x"], [relation("x = 0")])).lower.relations, (relation("x * x = 0"),))

    def test_the_same_relation_twice_counts_twice(self):
        upper = System(["x"], list(relations("x = 2\nx = 2\n2 = x")))
        self.assertEqual(only(OneStair(upper).lower), polynomial("3 * x * x - 12 * x + 12"))

    def test_another_relation(self):
        for word in OTHERS:
            for some in ([word], ["x = y", word], [word, "x = y"]):
                with self.assertRaises(BadSystem):
                    OneStair(System(["x", "y"], [relation(text) for text in some]))

    def test_the_upper_system_stays(self):
        upper = some_system()
        kept = copy.deepcopy((upper.unknowns, upper.relations))
        stair = OneStair(upper)
        self.assertIs(stair.upper, upper)
        stair.lower.relations[0][1][("x", "x")] = 5
        self.assertEqual((upper.unknowns, upper.relations), kept)

    def test_both_have_the_same_solutions(self):
        stair = OneStair(some_system())
        found = 0
        for z, x, y in itertools.product(range(9), range(7), range(7)):
            values = {"z": z, "x": x, "y": y}
            right = check(stair.upper, values)[0]
            found = found + right
            self.assertEqual(check(stair.lower, values), (right, 0))
            self.assertTrue(value_of(only(stair.lower), values) >= 0)
        self.assertEqual(found, 2)


class DownAndUp(unittest.TestCase):
    def test_the_same_values_in_new_dicts(self):
        stair, values = OneStair(some_system()), {"x": 2, "y": 3, "z": 5}
        for way in (stair.down, stair.up):
            found = way(values)
            self.assertEqual(found, values)
            found["x"] = 9
            self.assertEqual(values, {"x": 2, "y": 3, "z": 5})
            self.assertEqual(way(values), values)

    def test_the_index_of_no_solution(self):
        stair = OneStair(some_system())
        for values, index in (((5, 2, 2), 0), ((3, 1, 4), 1), ((4, 2, 3), 2)):
            with self.assertRaises(NotSolution) as caught:
                stair.down(dict(zip("zxy", values)))
            self.assertEqual(caught.exception.index, index)

    def test_up_asks_for_values_alone(self):
        stair, values = OneStair(some_system()), {"x": 8, "y": 9, "z": 10}
        self.assertEqual(stair.up(values), values)

    def test_no_values(self):
        stair, good = OneStair(some_system()), {"x": 2, "y": 3, "z": 5}
        for wrong in ({}, {"x": 2, "y": 3}, dict(good, w=0), dict(good, y=True), dict(good, x=-2), dict(good, x="2"),
                      dict(good, z=None), None, [2, 3, 5]):
            for way in (stair.down, stair.up):
                with self.assertRaises(BadValues, msg=repr(wrong)):
                    way(wrong)

    def test_below_products(self):
        products = ProductStair(example())
        one = OneStair(products.lower)
        for x, y in itertools.product(range(10), repeat=2):
            values = {"x": x, "y": y, "q0": x * x, "q1": x * x * x}
            self.assertEqual(value_of(only(one.lower), values) == 0, x * x * x * y == 8)
        for x, y in ((1, 8), (2, 1)):
            values = one.down(products.down({"x": x, "y": y}))
            self.assertEqual(check(one.lower, values), (True, 0))
            self.assertEqual(products.up(one.up(values)), {"x": x, "y": y})

    def test_below_a_row(self):
        """8.9 in small: the numbers of a row are the roots of one polynomial."""
        rows = RowStair(System(["y", "n"], [relation("row ; y ; n ; n + 2")]))
        products = ProductStair(rows.lower)
        one = OneStair(products.lower)
        for n, y in ((0, 0), (1, 1), (2, 8)):
            values = one.down(products.down(rows.down({"y": y, "n": n})))
            self.assertEqual(value_of(only(one.lower), values), 0)
            for name in ("y", "n", "r0b", "r0s", "q0"):
                self.assertTrue(value_of(only(one.lower), dict(values, **{name: values[name] + 1})) > 0)


class Only(unittest.TestCase):
    def test_one_equation(self):
        for text in ("x * x = y", "0 = 0", "3 = 1"):
            system = System(["x", "y"], [relation(text)])
            self.assertEqual(only(system), relation(text)[1])

    def test_every_other_system(self):
        for some in ([], ["x = y", "x = y"], ["x = y", "y = 1", "0 = 0"], *([word] for word in OTHERS),
                     *(["x = y", word] for word in OTHERS), *([word, "x = y"] for word in OTHERS)):
            with self.assertRaises(BadSystem):
                only(System(["x", "y"], [relation(text) for text in some]))

    def test_the_polynomial_is_new(self):
        system = System(["x", "y"], [relation("x = y")])
        only(system)[("x",)] = 5
        self.assertEqual(only(system), {("x",): 1, ("y",): -1})


class WithSigns(unittest.TestCase):
    def squares(self, name):
        return "(" + " + ".join(f"{name}{letter} * {name}{letter}" for letter in "abcd") + ")"

    def test_one_name(self):
        self.assertEqual(with_signs({("x",): 1}), {
            ("xa", "xa"): 1, ("xb", "xb"): 1, ("xc", "xc"): 1, ("xd", "xd"): 1})
        self.assertEqual(with_signs({("Z9",): -3, (): 5})[("Z9d", "Z9d")], -3)

    def test_polynomials(self):
        for text in ("0", "7", "x - 3", "x * y", "2 * x * x - y + 1", "x * x * x - 5 * x * y * z", "x*x*y*y - 2*x*y + 1"):
            given = {name: self.squares(name) for name in "xyz"}
            self.assertEqual(with_signs(polynomial(text)), polynomial(text, given), text)

    def test_names_that_are_others_with_a_letter(self):
        text = "x * xa - xaa + 3 * x"
        given = {name: self.squares(name) for name in ("x", "xa", "xaa")}
        self.assertEqual(with_signs(polynomial(text)), polynomial(text, given))

    def test_long_names(self):
        name = "abcdefghijk"
        self.assertEqual(with_signs({(name,): 2})[(name + "c", name + "c")], 2)
        for terms in ({(name + "l",): 1}, {(): 1, ("x",): 1, ("x", "x12345678901"): 1}):
            with self.assertRaises(BadSystem):
                with_signs(terms)

    def test_the_values(self):
        chosen = random.Random(3)
        for text in ("x - 3", "x * y - z * z", "x * x * x - 5 * x * y * z + 11", "4"):
            terms = polynomial(text)
            for _ in range(30):
                values = {name + letter: chosen.randrange(-9, 10) for name in "xyz" for letter in "abcd"}
                sums = {name: sum(values[name + letter] ** 2 for letter in "abcd") for name in "xyz"}
                self.assertEqual(value_of(with_signs(terms), values), value_of(terms, sums))
                self.assertEqual(unsigned_values(values), sums)

    def test_roots_there_and_back(self):
        terms = polynomial("x * x - 2 * y * y - 1")
        for x, y in ((1, 0), (3, 2), (17, 12), (99, 70)):
            signed = signed_values({"x": x, "y": y})
            self.assertEqual(value_of(with_signs(terms), signed), 0)
            for name in signed:
                signed[name] = -signed[name]
            self.assertEqual(value_of(with_signs(terms), signed), 0)
            self.assertEqual(unsigned_values(signed), {"x": x, "y": y})

    def test_nothing_changes(self):
        terms = {(): 1, ("x", "y"): 2}
        with_signs(terms).clear()
        self.assertEqual(terms, {(): 1, ("x", "y"): 2})
        self.assertEqual(len(with_signs(terms)), 17)


class SignedValues(unittest.TestCase):
    def test_the_items_in_their_order(self):
        self.assertEqual(signed_values({}), {})
        self.assertEqual(signed_values({"x": 7}), {"xa": 2, "xb": 1, "xc": 1, "xd": 1})
        self.assertEqual(signed_values({"y": 14, "x": 0}), {
            "ya": 3, "yb": 2, "yc": 1, "yd": 0, "xa": 0, "xb": 0, "xc": 0, "xd": 0})
        for number in (1, 2, 3, 30, 999, 10 ** 12 + 1, 10 ** 30):
            self.assertEqual(tuple(signed_values({"n": number}).values()), four_squares(number))

    def test_too_great(self):
        for values in ({"x": 10 ** 30 + 1}, {"x": 1, "y": 10 ** 31, "z": 2}):
            with self.assertRaises(TooGreat):
                signed_values(values)

    def test_there_and_back(self):
        chosen = random.Random(2)
        for _ in range(20):
            values = {name: chosen.randrange(10 ** chosen.randrange(1, 30)) for name in ("x", "xa", "A1", "abcdefghijkl")}
            signed = signed_values(values)
            self.assertEqual(len(signed), 16)
            self.assertEqual(unsigned_values(signed), values)

    def test_nothing_changes(self):
        values = {"x": 7}
        signed_values(values)["xa"] = 5
        self.assertEqual(values, {"x": 7})
        self.assertEqual(signed_values(values)["xa"], 2)


class UnsignedValues(unittest.TestCase):
    def test_integers_of_any_sign(self):
        self.assertEqual(unsigned_values({}), {})
        self.assertEqual(unsigned_values({"xa": -2, "xb": 1, "xc": -1, "xd": 1}), {"x": 7})
        self.assertEqual(unsigned_values({"xd": 0, "yb": -3, "xb": 0, "ya": 1, "xa": 0, "yd": 10 ** 40, "xc": 0, "yc": 2}),
                         {"x": 0, "y": 14 + 10 ** 80})

    def test_names_with_letters_behind(self):
        values = {name + letter: 1 for name in ("a", "ab", "aba", "A") for letter in "abcd"}
        self.assertEqual(unsigned_values(values), {"a": 4, "ab": 4, "aba": 4, "A": 4})
        values = {"abcdefghijkl" + letter: 2 for letter in "abcd"}
        self.assertEqual(unsigned_values(values), {"abcdefghijkl": 16})

    def test_wrong_names(self):
        good = {"xa": 1, "xb": 2, "xc": 3, "xd": 4}
        for wrong in ("a", "d", "", "x", "xe", "xA", "x1", "1a", "x-a", "abcdefghijklma", None, 5, ("xa",), b"xa"):
            with self.assertRaises(BadValues, msg=repr(wrong)):
                unsigned_values({**good, wrong: 1})
            with self.assertRaises(BadValues, msg=repr(wrong)):
                unsigned_values({wrong: 1})
        with self.assertRaises(BadValues):
            unsigned_values({"": 1, "a": 1, "b": 1, "c": 1, "d": 1})
        for number in range(1, 5):
            # As many names as there should be, but one of them is none.
            names = ["xa", "xb", "xc", "xd"][:number - 1] + ["xe"] + ["xa", "xb", "xc", "xd"][number:]
            with self.assertRaises(BadValues):
                unsigned_values(dict.fromkeys(names, 1))

    def test_one_of_four_is_missing(self):
        good = {name + letter: 1 for name in "xy" for letter in "abcd"}
        for missing in good:
            with self.assertRaises(BadValues, msg=missing):
                unsigned_values({name: number for name, number in good.items() if name != missing})
        for some in (["xa"], ["xa", "xb"], ["xa", "xb", "ya", "yb"], ["xa", "ya", "za", "wa"]):
            with self.assertRaises(BadValues):
                unsigned_values(dict.fromkeys(some, 0))

    def test_values_that_are_no_integers(self):
        for wrong in (True, False, None, "1", 1.0, [1], (1,)):
            for name in ("xa", "xd"):
                with self.assertRaises(BadValues, msg=repr(wrong)):
                    unsigned_values({"xa": 1, "xb": 2, "xc": 3, "xd": 4, name: wrong})

    def test_nothing_changes(self):
        values = {"xa": 1, "xb": -2, "xc": 3, "xd": 4}
        unsigned_values(values)["x"] = 5
        self.assertEqual(values, {"xa": 1, "xb": -2, "xc": 3, "xd": 4})


if __name__ == "__main__":
    unittest.main()
