"""1.11, 1.12 and the text of 1.13: texts of polynomials and systems."""

import copy
import re
import sys
import unittest

from runroots.errors import BadText
from runroots.poly import constant, minus, scaled, times, unknown
from runroots.system import System
from runroots.written import polynomial_text, system_of, text_of

X, Y = unknown("x"), unknown("y")
LONG = 10 ** 9000 + 7
SAMPLE = """unknowns x y a1 B
zero ; -4 + 1*x*x
row ; 1*y ; 1*x ; 2
under ; 0 ; 10 + -3*B*a1*a1 + 207*a1
power ; 1*B ; -1 + 1*B*x*y*y ; -90*y
zero ; 0
"""
# A name, a term and so on, told by patterns alone.
NAME = "[a-zA-Z][a-zA-Z0-9]{0,11}"
TERM = rf"-?[1-9][0-9]*(?:\*{NAME})*"
POLYNOMIAL = rf"(?:0|{TERM}(?: \+ {TERM})*)"
LINE = re.compile(rf"(?:zero(?: ; {POLYNOMIAL})|under(?: ; {POLYNOMIAL}){{2}}|(?:power|row)(?: ; {POLYNOMIAL}){{3}})",
                  re.ASCII)
FIRST = re.compile(rf"unknowns(?: {NAME})*", re.ASCII)


def is_right(line, names):
    """Return whether a line of a relation is right."""
    if not LINE.fullmatch(line):
        return False
    for polynomial in line.split(" ; ")[1:]:
        monomials = [term.split("*")[1:] for term in polynomial.split(" + ")]
        if any(one >= other for one, other in zip(monomials, monomials[1:])):
            return False
        for monomial in monomials:
            if monomial != sorted(monomial) or not set(monomial) <= set(names):
                return False
    return True


def first_wrong(text):
    """Return the number of the first line that is not right, or None."""
    *lines, rest = text.split("\n")
    if not lines or not FIRST.fullmatch(lines[0]):
        return 1
    names = lines[0].split(" ")[1:]
    if len(set(names)) < len(names):
        return 1
    for number, line in enumerate(lines[1:], start=2):
        if not is_right(line, names):
            return number
    return len(lines) + 1 if rest else None


class PolynomialText(unittest.TestCase):
    def test_the_document(self):
        self.assertEqual(polynomial_text({}), "0")
        self.assertEqual(polynomial_text({("a", "a", "b"): -3}), "-3*a*a*b")
        self.assertEqual(polynomial_text(minus(times(X, X), constant(4))), "-4 + 1*x*x")

    def test_constants(self):
        for number in (1, -1, 7, -20, 10 ** 40, -(10 ** 40)):
            self.assertEqual(polynomial_text({(): number}), str(number))

    def test_coefficients_are_always_written(self):
        self.assertEqual(polynomial_text(X), "1*x")
        self.assertEqual(polynomial_text(scaled(X, -1)), "-1*x")

    def test_terms_stand_in_ascending_order(self):
        mixed = {("y",): 1, ("x", "y"): 2, ("x",): -3, (): 4, ("x", "x", "x"): 5, ("B",): 6, ("x2",): 7, ("x10",): 8}
        self.assertEqual(polynomial_text(mixed),
                         "4 + 6*B + -3*x + 5*x*x*x + 2*x*y + 8*x10 + 7*x2 + 1*y")

    def test_coefficients_of_any_size(self):
        self.assertEqual(polynomial_text({("x",): -LONG, (): LONG}),
                         "1" + "0" * 8999 + "7 + -1" + "0" * 8999 + "7*x")

    def test_it_changes_nothing(self):
        polynomial = {("y",): 1, (): 2, ("x",): 3}
        polynomial_text(polynomial)
        self.assertEqual(list(polynomial.items()), [(("y",), 1), ((), 2), (("x",), 3)])


class TextOf(unittest.TestCase):
    def test_the_example(self):
        square = minus(times(X, X), constant(4))
        system = System(["x", "y"], [("zero", square), ("row", Y, X, constant(2))])
        self.assertEqual(text_of(system), "unknowns x y\nzero ; -4 + 1*x*x\nrow ; 1*y ; 1*x ; 2\n")

    def test_empty_systems(self):
        self.assertEqual(text_of(System([], [])), "unknowns\n")
        self.assertEqual(text_of(System(["b", "a"], [])), "unknowns b a\n")
        self.assertEqual(text_of(System([], [("zero", {})])), "unknowns\nzero ; 0\n")

    def test_all_words(self):
        system = System(["x"], [("power", X, {}, constant(-1)), ("under", X, X), ("row", X, X, X), ("zero", X)])
        self.assertEqual(text_of(system), "unknowns x\npower ; 1*x ; 0 ; -1\nunder ; 1*x ; 1*x\n"
                                          "row ; 1*x ; 1*x ; 1*x\nzero ; 1*x\n")

    def test_it_changes_nothing(self):
        system = system_of(SAMPLE)
        kept = copy.deepcopy((system.unknowns, system.relations))
        text_of(system)
        self.assertEqual((system.unknowns, system.relations), kept)


class SystemOf(unittest.TestCase):
    def assert_bad(self, text, line):
        with self.assertRaises(BadText, msg=repr(text)) as caught:
            system_of(text)
        self.assertEqual(caught.exception.line, line, repr(text))
        self.assertIs(type(caught.exception.line), int)

    def test_the_sample(self):
        system = system_of(SAMPLE)
        self.assertIsInstance(system, System)
        self.assertEqual(system.unknowns, ("x", "y", "a1", "B"))
        self.assertEqual(system.relations, (
            ("zero", {(): -4, ("x", "x"): 1}),
            ("row", {("y",): 1}, {("x",): 1}, {(): 2}),
            ("under", {}, {(): 10, ("B", "a1", "a1"): -3, ("a1",): 207}),
            ("power", {("B",): 1}, {(): -1, ("B", "x", "y", "y"): 1}, {("y",): -90}),
            ("zero", {}),
        ))

    def test_texts_are_read_back(self):
        for text in (SAMPLE, "unknowns\n", "unknowns x\n", "unknowns x\n" + "zero ; 1*x\n" * 30,
                     "unknowns abcdefghijkl\nzero ; -10*abcdefghijkl\n", "unknowns\nzero ; 5\nunder ; 0 ; -1\n"):
            self.assertEqual(text_of(system_of(text)), text)

    def test_long_coefficients_are_read_back(self):
        system = System(["x"], [("zero", {("x",): -LONG, (): LONG ** 3})])
        self.assertEqual(system_of(text_of(system)).relations, system.relations)
        self.assertEqual(system_of("unknowns\nzero ; 1" + "0" * 20000 + "\n").relations,
                         (("zero", {(): 10 ** 20000}),))
        self.assert_bad("unknowns\nzero ; 0" + "1" * 20000 + "\n", 2)
        self.assert_bad("unknowns\nzero ; " + "1" * 20000 + "x\n", 2)

    def test_no_first_line(self):
        for text in ("", "\n", "unknowns", "unknowns x", "zero ; 0\n", "unknowns x y", " ", "x\n", "\nunknowns\n"):
            self.assert_bad(text, 1)

    def test_first_lines_that_are_not_right(self):
        for line in ("unknown x", "Unknowns x", "unknowns ", "unknowns  x", "unknowns x ", " unknowns x", "unknowns x  y",
                     "unknowns\tx", "unknowns x\r", "unknownsx", "unknowns 1", "unknowns x 1x", "unknowns x_",
                     "unknowns abcdefghijklm", "unknowns \u00e9", "unknowns x\u0661", "unknowns x,y", "unknowns x ; y"):
            self.assert_bad(line + "\n", 1)
            self.assert_bad(line + "\nwrong\n", 1)

    def test_an_unknown_that_occurs_twice(self):
        self.assert_bad("unknowns x x\n", 1)
        self.assert_bad("unknowns x y x\nzero ; 1*x\n", 1)

    def test_an_unknown_that_is_not_there(self):
        self.assert_bad("unknowns x\nzero ; 1*y\n", 2)
        self.assert_bad("unknowns x\nzero ; 1*x\nunder ; 1*x ; 1 + 2*x*z\n", 3)
        self.assert_bad("unknowns\nrow ; 1 ; 1 ; 1*unknowns\n", 2)

    def test_coefficients_that_are_none(self):
        for number in ("", "-", "-0", "00", "01", "-01", "--1", "+1", "1-", " 1", "1 ", "1_0", "0x1", "1.0", "1e3",
                       "\u0661", "\u00b2", "x", "- 1", "\u2212" + "1"):
            self.assert_bad(f"unknowns x\nzero ; {number}\n", 2)
            self.assert_bad(f"unknowns x\nzero ; {number}*x\n", 2)
            self.assert_bad(f"unknowns x\nzero ; 1 + {number}*x\n", 2)

    def test_a_coefficient_zero(self):
        for text in ("0*x", "0 + 1*x", "1 + 0*x", "1*x + 0*x*x", "0 + 0"):
            self.assert_bad(f"unknowns x\nzero ; {text}\n", 2)

    def test_terms_twice_or_out_of_order(self):
        for text in ("1*x + 1*x", "1 + 1", "1*x + 1", "1*x*x + 1*x", "1*y + 1*x", "1*x*y + 1*x*x", "1*y*x",
                     "1*x + 1*y + 1*x", "1*x2 + 1*x10", "1*x*y*x"):
            self.assert_bad(f"unknowns x y x2 x10\nzero ; {text}\n", 2)

    def test_terms_of_another_form(self):
        for text in ("", "x", "*x", "1*", "1**x", "1*x*", "1*x +", "+ 1*x", "1*x+1*y", "1*x + ", "1*x  + 1*y", "1*x -1*y",
                     "1*x - 1*y", "1 * x", "1x", "1*x;", "1*x ;", "1*x ; ", "(1)", "1*x\t+ 1*y", "1*x\r", "x*1"):
            self.assert_bad(f"unknowns x y\nzero ; {text}\n", 2)

    def test_lines_of_another_form(self):
        for line in ("", " ", "zero", "zero ;", "zero ; ", "zero; 0", "zero ;0", "zero  ; 0", "zero ;  0", " zero ; 0",
                     "Zero ; 0", "one ; 0", "zero ; 0 ; 0", "under ; 0", "under ; 0 ; 0 ; 0", "power ; 0 ; 0",
                     "row ; 0 ; 0", "row ; 0 ; 0 ; 0 ; 0", "unknowns", "unknowns x", "; 0", " ; 0", "zero : 0",
                     "zero ; 0 ", "zero ; 0\r", "zero\t; 0"):
            self.assert_bad(f"unknowns x\nzero ; 0\n{line}\nzero ; 0\n", 3)

    def test_the_first_of_several_lines_that_are_not_right(self):
        self.assert_bad("unknowns x\nzero ; 1*x\nzero ; 1*y\nzero ; 0 ; 0\nzero", 3)
        self.assert_bad("unknowns x x\nzero ; 1*y", 1)

    def test_a_last_line_without_its_newline(self):
        self.assert_bad("unknowns x\nzero ; 1*x", 2)
        self.assert_bad(SAMPLE[:-1], 6)
        self.assert_bad("unknowns x\nwrong\nzero ; 1*x", 2)

    def test_a_line_that_is_empty(self):
        self.assert_bad("unknowns x\n\n", 2)
        self.assert_bad(SAMPLE + "\n", 7)
        self.assert_bad(SAMPLE.replace("\nrow", "\n\nrow"), 3)


class Spoilt(unittest.TestCase):
    """Texts with a small fault: either they are the text of another system, or the right line is told."""

    def look_at(self, text):
        line = first_wrong(text)
        if line is None:
            self.assertEqual(text_of(system_of(text)), text)
            return True
        with self.assertRaises(BadText, msg=repr(text)) as caught:
            system_of(text)
        self.assertEqual(caught.exception.line, line, repr(text))
        return False

    def test_a_character_left_out(self):
        seen = [self.look_at(SAMPLE[:at] + SAMPLE[at + 1:]) for at in range(len(SAMPLE))]
        self.assertEqual(set(seen), {True, False})

    def test_a_character_doubled(self):
        seen = [self.look_at(SAMPLE[:at] + SAMPLE[at] + SAMPLE[at:]) for at in range(len(SAMPLE))]
        self.assertEqual(set(seen), {True, False})

    def test_a_character_replaced(self):
        for sign in " \n\t\r*+-;0159xyzB_.\u00e9\u0663\x0b\u2028":
            for at in range(len(SAMPLE)):
                self.look_at(SAMPLE[:at] + sign + SAMPLE[at + 1:])
                self.look_at(SAMPLE[:at] + sign + SAMPLE[at:])

    def test_cut_anywhere(self):
        for at in range(len(SAMPLE)):
            whole = at > 0 and SAMPLE[at - 1] == "\n"
            self.assertEqual(self.look_at(SAMPLE[:at]), whole)
            if not whole:
                self.assertEqual(first_wrong(SAMPLE[:at]), SAMPLE[:at].count("\n") + 1)

    def test_lines_left_out_doubled_or_moved(self):
        lines = SAMPLE.splitlines(keepends=True)
        for at in range(len(lines)):
            self.assertEqual(self.look_at("".join(lines[:at] + lines[at + 1:])), at > 0)
            self.assertEqual(self.look_at("".join(lines[:at] + lines[at:at + 1] + lines[at:])), at > 0)
            for to in range(len(lines)):
                rest = lines[:at] + lines[at + 1:]
                moved = "".join(rest[:to] + lines[at:at + 1] + rest[to:])
                self.assertEqual(self.look_at(moved), at == to or (at > 0 and to > 0))


class NoLimits(unittest.TestCase):
    def test_where_python_takes_the_fewest_digits(self):
        kept = sys.get_int_max_str_digits()
        sys.set_int_max_str_digits(640)
        try:
            for digits in (599, 600, 601, 640, 641, 1300):
                text = "unknowns x\nzero ; -" + "9" * digits + "*x\n"
                self.assertEqual(text_of(system_of(text)), text)
        finally:
            sys.set_int_max_str_digits(kept)


if __name__ == "__main__":
    unittest.main()
