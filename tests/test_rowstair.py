"""6.6 to 6.9: the stair from "row" relations to equations alone."""

import copy
import itertools
import unittest

from runroots.counters import Machine
from runroots.errors import BadSystem, BadValues, NotSolution
from runroots.history import history
from runroots.index import witnesses
from runroots.masks import MaskStair
from runroots.powerstair import PowerStair
from runroots.relations import row_member
from runroots.rowstair import RowStair
from runroots.system import System, check
from tests.formulas import relation, relations

LETTERS = "aomyxuvstbrpqcde"
# The first member of the row of 2, with the numbers of 6.11.
FIRST = {"a": 0, "o": 0, "m": 0, "y": 1, "x": 2, "u": 7, "v": 4, "s": 9, "t": 1, "b": 9, "r": 3, "p": 2, "q": 1,
         "c": 1, "d": 0, "e": 0}
# Relations of other kinds around two "row", with polynomials of all sorts.
KINDS = """
    under ; x ; z
    row ; z + 3 ; x * x ; y + 2
    power ; 1 ; x ; y + 1
    row ; 1 ; 1 ; x + y
    x = 1
"""


def example():
    return System(["y", "n", "a"], list(relations("row ; y ; n ; a")))


def values_for(n, a):
    return {"y": row_member(n, a), "n": n, "a": a}


def names(stem, *indexes):
    return tuple(f"{stem}{index}{letter}" for index in indexes for letter in LETTERS)


def wanted_relations(stem, index, y, n, a):
    given = dict(zip(LETTERS, names(stem, index)))
    return relations("""
        A - 2 - a = 0
        N * o = 0
        o * o - o = 0
        N + o - 1 - m = 0
        Z - y + o * y = 0
        x * x - (A * A - 1) * y * y = 1
        u * u - (A * A - 1) * v * v = 1
        s * s - (b * b - 1) * t * t = 1
        v = (r + 1) * y * y
        b = 1 + 4 * p * y
        b = A + q * u
        s = x + c * u
        t = K + 4 * d * y
        y = K + e
    """, {**given, "A": a, "N": n, "Z": y, "K": f"{n} + {given['o']}"})


def wanted_numbers(n, a):
    """Return the values of the witnesses as [6.7] tells them."""
    o = 1 if n == 0 else 0
    return {"a": a - 2, "o": o, "m": n + o - 1, **witnesses(n + o, a)}


class TheLowerSystem(unittest.TestCase):
    def test_one_relation(self):
        stair = RowStair(example())
        self.assertIsInstance(stair.lower, System)
        self.assertEqual(stair.lower.unknowns, ("y", "n", "a", *names("r", 0)))
        self.assertEqual(stair.lower.relations, wanted_relations("r", 0, "y", "n", "a"))
        self.assertEqual(stair.lower.kinds(), {"zero": 14, "under": 0, "power": 0, "row": 0})

    def test_relations_of_all_kinds(self):
        stair = RowStair(System(["x", "y", "z"], list(relations(KINDS))))
        given = relations(KINDS)
        self.assertEqual(stair.lower.unknowns, ("x", "y", "z", *names("r", 1, 3)))
        self.assertEqual(stair.lower.relations, (
            given[:1] + wanted_relations("r", 1, "z + 3", "x * x", "y + 2") + given[2:3] +
            wanted_relations("r", 3, "1", "1", "x + y") + given[4:]))
        self.assertEqual(stair.lower.kinds(), {"zero": 29, "under": 1, "power": 1, "row": 0})

    def test_names_that_begin_with_the_letter(self):
        for unknowns, stem in ((["r", "y"], "rr"), (["r0a", "y"], "rr"), (["rx", "rry"], "rrr"), (["R", "xr"], "r"),
                               (["rrrrr", "y"], "rrrrrr")):
            first, second = unknowns
            stair = RowStair(System(unknowns, [relation(f"row ; {first} ; {second} ; 3")]))
            self.assertEqual(stair.lower.unknowns, (*unknowns, *names(stem, 0)))
            self.assertEqual(stair.lower.relations, wanted_relations(stem, 0, first, second, "3"))

    def test_more_than_ten_relations(self):
        stair = RowStair(System(["x"], [relation("row ; x ; x ; 2"), ("zero", {})] * 6))
        self.assertEqual(stair.lower.unknowns, ("x", *names("r", 0, 2, 4, 6, 8, 10)))
        wanted = [wanted_relations("r", index, "x", "x", "2") + (("zero", {}),) for index in range(0, 12, 2)]
        self.assertEqual(stair.lower.relations, tuple(itertools.chain(*wanted)))
        values = stair.down({"x": 1})
        self.assertEqual(values, {"x": 1, **{name: FIRST[name[-1]] for name in stair.lower.unknowns[1:]}})

    def test_nothing_to_replace(self):
        upper = System(["x", "r"], list(relations("x = r\npower ; x ; r ; 1\nunder ; x ; r")))
        stair = RowStair(upper)
        self.assertEqual((stair.lower.unknowns, stair.lower.relations), (upper.unknowns, upper.relations))
        self.assertEqual(stair.down({"x": 1, "r": 1}), {"x": 1, "r": 1})

    def test_no_stem_is_free(self):
        for some in ([], [relation("x = 0")], [relation("row ; x ; x ; 2")]):
            with self.assertRaises(BadSystem):
                RowStair(System(["x", "rrrrrr"], some))

    def test_names_that_are_too_long(self):
        filling = [("zero", {})] * 99999
        upper = System(["x", "rrrrr"], filling + [relation("row ; x ; x ; 2")])
        self.assertEqual(RowStair(upper).lower.unknowns[2], "rrrrrr99999a")
        upper = System(["x", "rrrrr"], filling + [("zero", {}), relation("row ; x ; x ; 2")])
        with self.assertRaises(BadSystem):
            RowStair(upper)

    def test_the_upper_system_stays(self):
        upper = System(["x", "y", "z"], list(relations(KINDS)))
        kept = copy.deepcopy((upper.unknowns, upper.relations))
        stair = RowStair(upper)
        self.assertIs(stair.upper, upper)
        for one in stair.lower.relations:
            one[1][("x", "x")] = 5
        self.assertEqual((upper.unknowns, upper.relations), kept)


class Down(unittest.TestCase):
    def test_the_example(self):
        stair = RowStair(example())
        wanted = {"y": 1, "n": 1, "a": 2, **{f"r0{letter}": number for letter, number in FIRST.items()}}
        self.assertEqual(stair.down({"y": 1, "n": 1, "a": 2}), wanted)
        self.assertEqual(list(stair.down({"y": 1, "n": 1, "a": 2})), list(stair.lower.unknowns))
        self.assertEqual(check(stair.lower, wanted), (True, 0))

    def test_small_numbers(self):
        stair = RowStair(example())
        for n, a in [*itertools.product(range(4), range(2, 8)), (4, 2), (5, 2), (4, 3)]:
            values = stair.down(values_for(n, a))
            wanted = {f"r0{letter}": number for letter, number in wanted_numbers(n, a).items()}
            self.assertTrue(values == {**values_for(n, a), **wanted}, (n, a))
            self.assertEqual(check(stair.lower, values), (True, 0))

    def test_the_index_zero(self):
        stair = RowStair(example())
        for a in (2, 3, 9, 10 ** 30):
            values = stair.down({"y": 0, "n": 0, "a": a})
            self.assertEqual([values[f"r0{letter}"] for letter in "aomyx"], [a - 2, 1, 0, 1, a])
            self.assertEqual(check(stair.lower, values), (True, 0))
            self.assertEqual(stair.up(values), {"y": 0, "n": 0, "a": a})

    def test_polynomials(self):
        upper = System(["x", "y", "z"], list(relations(KINDS)))
        values = {"x": 1, "y": 1, "z": 0}
        with self.assertRaises(NotSolution) as caught:
            RowStair(upper).down(values)
        self.assertEqual(caught.exception.index, 0)
        upper = System(["x", "y", "z"], list(relations(KINDS))[2:] + [relation("row ; z + 8 ; x + 1 ; y + 3")])
        stair = RowStair(upper)
        below = stair.down(values)
        for index, n, a in ((1, 1, 2), (3, 2, 4)):
            for letter, number in wanted_numbers(n, a).items():
                self.assertEqual(below[f"r{index}{letter}"], number)
        self.assertEqual(len(below), 35)
        self.assertEqual(check(stair.lower, below), (True, 0))
        self.assertEqual(stair.up(below), values)

    def test_the_index_of_no_solution(self):
        upper = System(["x", "y"], list(relations("x = y\nrow ; y ; x ; 2\nunder ; 1 ; y\nrow ; 6 ; 2 * y ; 3")))
        stair = RowStair(upper)
        self.assertEqual(stair.up(stair.down({"x": 1, "y": 1})), {"x": 1, "y": 1})
        for values, index in (({"x": 3, "y": 4}, 0), ({"x": 4, "y": 4}, 1), ({"x": 0, "y": 0}, 2)):
            with self.assertRaises(NotSolution) as caught:
                stair.down(values)
            self.assertEqual(caught.exception.index, index)
        upper = System(["x", "y"], list(relations("x = y\nrow ; y ; x ; 2\nrow ; 5 ; 2 * y ; 3")))
        with self.assertRaises(NotSolution) as caught:
            RowStair(upper).down({"x": 1, "y": 1})
        self.assertEqual(caught.exception.index, 2)
        for y, n, a in ((5, 2, 2), (3, 2, 2), (0, 1, 2), (1, 0, 2), (2, 2, 1), (1, 1, 1), (0, 0, 0), (1, 10 ** 30, 2)):
            with self.assertRaises(NotSolution) as caught:
                RowStair(example()).down({"y": y, "n": n, "a": a})
            self.assertEqual(caught.exception.index, 0)

    def test_no_values(self):
        stair, good = RowStair(example()), {"y": 4, "n": 2, "a": 2}
        for wrong in ({}, {"y": 4, "n": 2}, dict(good, w=0), dict(good, n=True), dict(good, n=-2), dict(good, y="4"),
                      None, [4, 2, 2], stair.down(good), dict(good, a=-2, y=9)):
            with self.assertRaises(BadValues, msg=repr(wrong)):
                stair.down(wrong)

    def test_nothing_changes(self):
        stair, values = RowStair(example()), {"y": 4, "n": 2, "a": 2}
        stair.down(values)["y"] = 5
        self.assertEqual(values, {"y": 4, "n": 2, "a": 2})
        self.assertEqual(stair.down(values)["y"], 4)


class Up(unittest.TestCase):
    def test_witnesses_are_left_out(self):
        stair = RowStair(example())
        values = stair.down({"y": 4, "n": 2, "a": 2})
        kept = dict(values)
        self.assertEqual(stair.up(values), {"y": 4, "n": 2, "a": 2})
        stair.up(values)["y"] = 5
        self.assertEqual(values, kept)

    def test_values_are_not_checked(self):
        stair, good = RowStair(example()), {"y": 4, "n": 2, "a": 2}
        self.assertEqual(stair.up(dict(stair.down(good), y=10)), dict(good, y=10))
        self.assertEqual(stair.up(dict(stair.down(good), y=-1, r0b="no")), dict(good, y=-1))
        self.assertEqual(stair.up(dict(stair.down(good), more=7)), good)
        self.assertEqual(stair.up(good), good)


class Exact(unittest.TestCase):
    """6.3: no witnesses make another member hold."""

    def test_another_member_index_or_base(self):
        stair = RowStair(example())
        for n, a in itertools.product(range(4), range(2, 6)):
            values = stair.down(values_for(n, a))
            for name, change in itertools.product("yna", (-2, -1, 1, 2, 5)):
                changed = dict(values, **{name: values[name] + change})
                if changed[name] >= 0:
                    self.assertFalse(check(stair.lower, changed)[0], (n, a, name, change))

    def test_witnesses_of_another_member(self):
        stair = RowStair(example())
        places = list(itertools.product(range(4), range(2, 5)))
        for (n, a), (m, b) in itertools.product(places, places):
            lower = {**stair.down(values_for(m, b)), **values_for(n, a)}
            self.assertEqual(check(stair.lower, lower)[0], (n, a) == (m, b), (n, a, m, b))

    def test_changed_witnesses(self):
        stair = RowStair(example())
        for n, a in itertools.product(range(3), range(2, 5)):
            values = stair.down(values_for(n, a))
            for letter, change in itertools.product(LETTERS, (-2, -1, 1, 2)):
                changed = dict(values, **{f"r0{letter}": values[f"r0{letter}"] + change})
                if changed[f"r0{letter}"] >= 0:
                    self.assertFalse(check(stair.lower, changed)[0], (n, a, letter, change))

    def test_another_solution_above_the_same_values(self):
        """The witnesses are not the only ones: what is above them counts, whoever found them."""
        stair = RowStair(example())
        values = stair.down({"y": 1, "n": 1, "a": 2})
        others = {"b": 37, "s": 37, "p": 9, "q": 5, "c": 5}
        changed = {**values, **{f"r0{letter}": number for letter, number in others.items()}}
        self.assertEqual(check(stair.lower, changed), (True, 0))
        self.assertEqual(stair.up(changed), {"y": 1, "n": 1, "a": 2})


class BelowPowers(unittest.TestCase):
    """0.3: two stairs one below the other."""

    def test_a_power(self):
        powers = PowerStair(System(["z", "x", "y"], [relation("power ; z ; x ; y")]))
        rows = RowStair(powers.lower)
        self.assertEqual(rows.lower.kinds(), {"zero": 38, "under": 0, "power": 0, "row": 0})
        self.assertEqual(len(rows.lower.unknowns), 45)
        self.assertEqual(rows.lower.unknowns[13:], names("r", 6, 7))
        for x, y in ((0, 0), (0, 1), (1, 0), (1, 1), (2, 0), (5, 0), (1, 2), (3, 1), (2, 2)):
            values = {"z": x ** y, "x": x, "y": y}
            below = rows.down(powers.down(values))
            self.assertEqual(check(rows.lower, below), (True, 0))
            self.assertEqual(powers.up(rows.up(below)), values)
            self.assertFalse(check(rows.lower, dict(below, z=x ** y + 1))[0])

    def test_the_system_of_a_machine(self):
        powers = PowerStair(MaskStair(history(Machine(1, [("stop",)]))).lower)
        rows = RowStair(powers.lower)
        self.assertEqual(rows.lower.kinds(), {"zero": 667, "under": 0, "power": 0, "row": 0})
        self.assertEqual(len(rows.lower.unknowns), 765)


if __name__ == "__main__":
    unittest.main()
