"""4.5 to 4.10: the stair from "under" relations to powers."""

import copy
import itertools
import unittest

from runroots.binomial import binomial
from runroots.counters import Machine
from runroots.errors import BadSystem, BadValues, NotSolution
from runroots.history import history, run_of, solution
from runroots.masks import MaskStair, mask_sizes
from runroots.system import System, check
from tests.formulas import relation, relations

LETTERS = "UVWMEDFG"
EXAMPLE = {"x": 1, "y": 3}
WITNESSES = {"m0U": 16, "m0W": 4913, "m0V": 16, "m0M": 19, "m0E": 1, "m0D": 1, "m0F": 14, "m0G": 12}
# Relations of all kinds, with two "under" that are no names alone.
KINDS = """
    power ; z ; x ; y
    under ; x + 1 ; 2 * y + z
    x = y
    row ; z ; x ; y + 1
    under ; 4 ; x * x
    z = 4
"""


def example():
    return System(["x", "y"], list(relations("under ; x ; y")))


def kinds():
    return System(["x", "y", "z"], list(relations(KINDS)))


def wanted_relations(stem, index, a, b):
    given = {letter: f"{stem}{index}{letter}" for letter in LETTERS}
    return relations("""
        power ; U ; 2 ; b + 1
        power ; W ; U + 1 ; b
        power ; V ; U ; a
        W = M * U * V + (2 * E + 1) * V + D
        D + F + 1 = V
        2 * E + 2 + G = U
    """, {**given, "a": a, "b": b})


def wanted_numbers(a, b):
    """Return the values of the witnesses as [4.6] tells them, by dividing."""
    base = 2 ** (b + 1)
    whole, place = (base + 1) ** b, base ** a
    digit = whole // place % base
    return {"U": base, "W": whole, "V": place, "D": whole % place, "E": digit // 2, "M": whole // place // base,
            "F": place - 1 - whole % place, "G": base - 1 - digit}


class TheLowerSystem(unittest.TestCase):
    def test_the_example(self):
        stair = MaskStair(example())
        self.assertIsInstance(stair.lower, System)
        self.assertEqual(stair.lower.unknowns, ("x", "y", "m0U", "m0V", "m0W", "m0M", "m0E", "m0D", "m0F", "m0G"))
        self.assertEqual(stair.lower.relations, wanted_relations("m", 0, "x", "y"))

    def test_relations_of_all_kinds(self):
        stair = MaskStair(kinds())
        given = relations(KINDS)
        self.assertEqual(stair.lower.unknowns, (
            "x", "y", "z", *(f"m1{letter}" for letter in LETTERS), *(f"m4{letter}" for letter in LETTERS)))
        self.assertEqual(stair.lower.relations, (
            given[:1] + wanted_relations("m", 1, "x + 1", "2 * y + z") + given[2:4] +
            wanted_relations("m", 4, "4", "x * x") + given[5:]))
        self.assertEqual(stair.lower.kinds(), {"zero": 8, "under": 0, "power": 7, "row": 1})

    def test_names_that_begin_with_the_letter(self):
        for unknowns, stem in ((["m", "y"], "mm"), (["x", "m0U"], "mm"), (["mx", "mmy"], "mmm"), (["M", "xm"], "m"),
                               (["mmm", "x"], "mmmm"), (["mmmmm", "x"], "mmmmmm")):
            first, second = unknowns
            stair = MaskStair(System(unknowns, [relation(f"under ; {first} ; {second}")]))
            self.assertEqual(stair.lower.unknowns, (*unknowns, *(f"{stem}0{letter}" for letter in LETTERS)))
            self.assertEqual(stair.lower.relations, wanted_relations(stem, 0, first, second))

    def test_more_than_ten_relations(self):
        upper = System(["x", "y"], [relation("under ; x ; y")] * 12 + [relation("x = y"), relation("under ; y ; x")])
        stair = MaskStair(upper)
        names = [f"m{index}{letter}" for index in [*range(12), 13] for letter in LETTERS]
        self.assertEqual(stair.lower.unknowns, ("x", "y", *names))
        wanted = []
        for index in range(12):
            wanted += wanted_relations("m", index, "x", "y")
        wanted += [relation("x = y"), *wanted_relations("m", 13, "y", "x")]
        self.assertEqual(stair.lower.relations, tuple(wanted))

    def test_nothing_to_replace(self):
        upper = System(["m", "y"], [relation("m = y"), relation("row ; m ; y ; 2")])
        stair = MaskStair(upper)
        self.assertEqual((stair.lower.unknowns, stair.lower.relations), (upper.unknowns, upper.relations))
        self.assertEqual(stair.down({"m": 0, "y": 0}), {"m": 0, "y": 0})
        self.assertEqual(MaskStair(System([], [])).lower.unknowns, ())

    def test_no_stem_is_free(self):
        for some in ([], [relation("under ; x ; x")]):
            with self.assertRaises(BadSystem):
                MaskStair(System(["x", "mmmmmm"], some))

    def test_names_that_are_too_long(self):
        filling = [("zero", {})] * 99999
        upper = System(["x", "mmmmm"], filling + [relation("under ; x ; x")])
        self.assertEqual(MaskStair(upper).lower.unknowns[2], "mmmmmm99999U")
        upper = System(["x", "mmmmm"], filling + [("zero", {}), relation("under ; x ; x")])
        with self.assertRaises(BadSystem):
            MaskStair(upper)

    def test_the_upper_system_stays(self):
        upper = kinds()
        kept = copy.deepcopy((upper.unknowns, upper.relations))
        stair = MaskStair(upper)
        self.assertIs(stair.upper, upper)
        for one in stair.lower.relations:
            one[1][("x", "x")] = 5
        self.assertEqual((upper.unknowns, upper.relations), kept)
        self.assertEqual(MaskStair(upper).lower.relations[0], relations(KINDS)[0])


class Down(unittest.TestCase):
    def test_the_example(self):
        stair = MaskStair(example())
        self.assertEqual(stair.down(EXAMPLE), {**EXAMPLE, **WITNESSES})
        self.assertEqual(check(stair.lower, stair.down(EXAMPLE)), (True, 0))
        self.assertEqual(WITNESSES["m0W"], 17 ** 3)

    def test_all_small_numbers(self):
        stair = MaskStair(example())
        for a, b in itertools.product(range(24), repeat=2):
            if binomial(b, a) % 2 == 0:
                with self.assertRaises(NotSolution) as caught:
                    stair.down({"x": a, "y": b})
                self.assertEqual(caught.exception.index, 0)
                continue
            values = stair.down({"x": a, "y": b})
            wanted = {f"m0{letter}": number for letter, number in wanted_numbers(a, b).items()}
            self.assertEqual(values, {"x": a, "y": b, **wanted})
            self.assertEqual(check(stair.lower, values), (True, 0))

    def test_greater_numbers(self):
        stair = MaskStair(example())
        for a, b in ((0, 300), (300, 300), (256, 300), (44, 300), (255, 511)):
            values = stair.down({"x": a, "y": b})
            wanted = {f"m0{letter}": number for letter, number in wanted_numbers(a, b).items()}
            self.assertTrue(values == {"x": a, "y": b, **wanted})
            self.assertEqual(check(stair.lower, values), (True, 0))

    def test_polynomials(self):
        upper = System(["x", "y"], list(relations("under ; x + 1 ; 2 * y\nx = 1\nunder ; 0 ; y - 3\nunder ; y ; 7")))
        stair = MaskStair(upper)
        values = stair.down({"x": 1, "y": 3})
        for index, a, b in ((0, 2, 6), (2, 0, 0), (3, 3, 7)):
            for letter, number in wanted_numbers(a, b).items():
                self.assertEqual(values[f"m{index}{letter}"], number)
        self.assertEqual(len(values), 26)
        self.assertEqual(check(stair.lower, values), (True, 0))
        self.assertEqual(stair.up(values), {"x": 1, "y": 3})

    def test_the_index_of_no_solution(self):
        upper = System(["x", "y"], list(relations("under ; x ; y\nunder ; 1 ; x\ny = 3\nunder ; y ; 3 * x")))
        stair = MaskStair(upper)
        self.assertEqual(stair.up(stair.down({"x": 1, "y": 3})), {"x": 1, "y": 3})
        for values, index in (({"x": 4, "y": 3}, 0), ({"x": 2, "y": 3}, 1), ({"x": 1, "y": 5}, 2), ({"x": 3, "y": 3}, 3),
                              ({"x": 4, "y": 2}, 0)):
            with self.assertRaises(NotSolution) as caught:
                stair.down(values)
            self.assertEqual(caught.exception.index, index)

    def test_no_values(self):
        stair = MaskStair(example())
        for wrong in ({}, {"x": 1}, {"x": 1, "y": 3, "z": 0}, {"x": 1, "y": True}, {"x": -1, "y": 3}, {"x": 1, "y": "3"},
                      None, [1, 3], {**EXAMPLE, **WITNESSES}, {"x": -1, "y": -5}):
            with self.assertRaises(BadValues, msg=repr(wrong)):
                stair.down(wrong)

    def test_nothing_changes(self):
        stair, values = MaskStair(example()), dict(EXAMPLE)
        stair.down(values)["x"] = 9
        self.assertEqual(values, EXAMPLE)
        self.assertEqual(stair.down(values)["x"], 1)
        self.assertEqual(stair.upper.relations, relations("under ; x ; y"))


class Up(unittest.TestCase):
    def test_witnesses_are_left_out(self):
        stair = MaskStair(example())
        values = {**EXAMPLE, **WITNESSES}
        self.assertEqual(stair.up(values), EXAMPLE)
        stair.up(values)["x"] = 9
        self.assertEqual(values, {**EXAMPLE, **WITNESSES})

    def test_values_that_are_no_solution(self):
        self.assertEqual(MaskStair(example()).up({"x": 8, "y": 3, **WITNESSES}), {"x": 8, "y": 3})

    def test_no_values(self):
        stair = MaskStair(example())
        values = {**EXAMPLE, **WITNESSES}
        wrong = [{}, None, [], EXAMPLE, WITNESSES, dict(values, z=1)]
        for name in values:
            wrong += [{other: values[other] for other in values if other != name}, dict(values, **{name: -1}),
                      dict(values, **{name: True}), dict(values, **{name: "1"}), dict(values, **{name: None})]
        for one in wrong:
            with self.assertRaises(BadValues, msg=repr(one)):
                stair.up(one)


class Exact(unittest.TestCase):
    """4.6 and 4.8: one solution above each solution, and none above anything else."""

    def test_changed_witnesses(self):
        stair = MaskStair(example())
        for a, b in ((0, 0), (0, 1), (1, 1), (1, 3), (2, 3), (4, 5), (5, 5), (0, 6), (6, 14)):
            values = stair.down({"x": a, "y": b})
            for name in values:
                for change in (-values[name], -2, -1, 1, 2, values["m0U"], values["m0V"]):
                    changed = dict(values, **{name: values[name] + change})
                    if change and changed[name] >= 0:
                        self.assertFalse(check(stair.lower, changed)[0], (a, b, name, change))

    def test_all_witnesses_that_could_be(self):
        stair = MaskStair(example())
        for a, b in itertools.product(range(5), range(4)):
            found = []
            numbers = wanted_numbers(a, b)
            base, whole, place = numbers["U"], numbers["W"], numbers["V"]
            # The first three relations leave no choice, and from E and M the rest follows.
            for half, above in itertools.product(range(base // 2 + 1), range(whole // (base * place) + 2)):
                below = whole - above * base * place - (2 * half + 1) * place
                values = {"x": a, "y": b, "m0U": base, "m0V": place, "m0W": whole, "m0M": above, "m0E": half,
                          "m0D": below, "m0F": place - 1 - below, "m0G": base - 2 - 2 * half}
                if min(values.values()) >= 0 and check(stair.lower, values)[0]:
                    found.append(values)
            self.assertEqual(found, [stair.down({"x": a, "y": b})] if binomial(b, a) % 2 else [])

    def test_runs_of_machines(self):
        machine = Machine(2, [("dec", 0, 1, 2), ("inc", 1, 0), ("stop",)])
        stair = MaskStair(history(machine))
        for inputs, c in (((0, 0), 1), ((0, 0), 2), ((0, 1), 2), ((0, 2), 3), ((1, 0), 2)):
            run = machine.run(inputs, 9)
            values = stair.down(solution(machine, run, c))
            self.assertEqual(check(stair.lower, values), (True, 0))
            self.assertEqual(run_of(machine, stair.up(values)), run)


class Sizes(unittest.TestCase):
    def test_the_example(self):
        self.assertEqual(mask_sizes(example(), EXAMPLE), [13])
        self.assertEqual((4913).bit_length(), 13)

    def test_they_are_those_of_the_witnesses(self):
        stair = MaskStair(example())
        for a, b in itertools.product(range(20), repeat=2):
            if a & b == a:
                values = {"x": a, "y": b}
                self.assertEqual(mask_sizes(stair.upper, values), [stair.down(values)["m0W"].bit_length()])

    def test_several_relations(self):
        text = "x = 1\nunder ; x ; y\nunder ; 0 ; 0\npower ; x ; x ; y\nunder ; 3 ; 2 * y + x"
        upper = System(["x", "y"], list(relations(text)))
        self.assertEqual(mask_sizes(upper, EXAMPLE), [13, 1, 57])
        self.assertEqual(mask_sizes(System(["x"], []), {"x": 5}), [])

    def test_without_working_them_out(self):
        b = 2 ** 200 - 1
        self.assertEqual(mask_sizes(example(), {"x": 1, "y": b}), [b * (b + 1) + 1])


if __name__ == "__main__":
    unittest.main()
