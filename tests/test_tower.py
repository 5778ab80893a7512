"""8.2 to 8.6, and 8.9 in small: towers and sizes."""

import copy
import itertools
import random
import unittest

from runroots.counters import Machine
from runroots.errors import BadSystem, BadTower, BadValues, NotSolution
from runroots.history import asked, history
from runroots.masks import MaskStair
from runroots.onepoly import OneStair, only, signed_values, unsigned_values, with_signs
from runroots.poly import degree, value_of
from runroots.powerstair import PowerStair
from runroots.products import ProductStair
from runroots.relations import row_member
from runroots.rowstair import RowStair
from runroots.system import System, check
from runroots.tower import Tower, history_size, size_of, sizes
from tests.formulas import relation, relations

KINDS = {"masks": MaskStair, "powers": PowerStair, "rows": RowStair, "products": ProductStair, "one": OneStair}
ALL = list(KINDS)
# x is under y, and z is x to the power of y.
MIXED = "under ; x ; y\nx + 1 = y\npower ; z ; x ; y"
SOLUTIONS = ({"x": 0, "y": 1, "z": 0},)


def mixed():
    return System(["x", "y", "z"], list(relations(MIXED)))


def rows():
    return System(["y", "n", "a"], [relation("row ; y ; n ; a")])


def shown(system):
    return system.unknowns, system.relations


def machines():
    """Yield machines with lines of all kinds, of all sizes."""
    chosen = random.Random(6)
    yield Machine(1, [("stop",)])
    yield Machine(2, [("dec", 0, 1, 2), ("inc", 1, 0), ("stop",)])
    for _ in range(12):
        registers, size = chosen.randrange(1, 5), chosen.randrange(1, 13)
        lines = [("stop",)]
        while len(lines) < size:
            place, first, second = chosen.randrange(registers), chosen.randrange(size), chosen.randrange(size)
            lines.append(chosen.choice([("stop",), ("inc", place, first), ("dec", place, first, second)]))
        chosen.shuffle(lines)
        yield Machine(registers, lines)


class Attributes(unittest.TestCase):
    def test_no_stairs(self):
        system = mixed()
        tower = Tower(system, [])
        self.assertIs(tower.upper, system)
        self.assertIs(tower.lower, system)
        self.assertEqual(tower.stairs, ())

    def test_one_stair(self):
        for name, system in (("masks", mixed()), ("powers", mixed()), ("rows", rows()),
                             ("products", System(["x"], [relation("x*x*x = 8")])),
                             ("one", System(["x"], [relation("x*x*x = 8")]))):
            tower = Tower(system, [name])
            self.assertIs(tower.upper, system)
            self.assertIsInstance(tower.stairs, tuple)
            self.assertEqual(len(tower.stairs), 1)
            self.assertIsInstance(tower.stairs[0], KINDS[name])
            self.assertIs(tower.stairs[0].upper, system)
            self.assertIs(tower.lower, tower.stairs[0].lower)
            self.assertEqual(shown(tower.lower), shown(KINDS[name](system).lower))

    def test_several_stairs(self):
        cubic = System(["x", "y"], list(relations("x * x * x = y\ny = 8")))
        for system, names in (
                (mixed(), ALL), (mixed(), ["masks", "powers"]), (mixed(), ["powers", "masks"]),
                (mixed(), ["masks", "masks", "powers", "powers"]), (cubic, ["one", "products", "one", "products"]),
                (mixed(), ["rows", "powers", "rows", "masks", "powers", "rows", "products", "one"])):
            tower = Tower(system, names)
            self.assertEqual([type(stair) for stair in tower.stairs], [KINDS[name] for name in names])
            here = tower.upper
            for stair in tower.stairs:
                self.assertIs(stair.upper, here)
                here = stair.lower
            self.assertIs(tower.lower, here)
        tower = Tower(mixed(), ALL)
        self.assertEqual(tower.lower.kinds(), {"zero": 1, "under": 0, "power": 0, "row": 0})
        self.assertEqual(degree(only(tower.lower)), 4)

    def test_the_same_stair_twice(self):
        tower = Tower(mixed(), ["masks", "masks"])
        self.assertEqual(shown(tower.stairs[1].lower), shown(tower.stairs[0].lower))

    def test_nothing_changes(self):
        names, system = ["masks", "powers"], mixed()
        kept = copy.deepcopy(shown(system))
        tower = Tower(system, names)
        self.assertEqual(names, ["masks", "powers"])
        self.assertEqual(shown(system), kept)
        names.append("rows")
        self.assertEqual(len(tower.stairs), 2)


class Refused(unittest.TestCase):
    def demand(self, system, names, index):
        with self.assertRaises(BadTower, msg=repr(names)) as caught:
            Tower(system, names)
        self.assertEqual(caught.exception.index, index)

    def test_names_that_are_none(self):
        for wrong in ("mask", "Masks", "", "ones", "product", None, 0, True, ["masks"], "masks powers"):
            self.demand(mixed(), [wrong], 0)
            self.demand(mixed(), ["masks", wrong, "masks"], 1)
            self.demand(mixed(), ["masks", "powers", "rows", wrong, "other"], 3)

    def test_stairs_that_take_equations_alone(self):
        for name in ("products", "one"):
            for word in ("under ; x ; y", "power ; x ; y ; 1", "row ; x ; y ; 2"):
                system = System(["x", "y"], [relation("x = y"), relation(word)])
                self.demand(system, [name], 0)
            self.demand(mixed(), ["masks", name], 1)
            self.demand(mixed(), ["masks", "powers", name, "rows"], 2)
            self.demand(mixed(), ["powers", "rows", name], 2)
            self.demand(mixed(), ["rows", "masks", "powers", name], 3)
            self.demand(mixed(), ["one", name], 0)
        Tower(System(["x", "y"], []), ["one", "products", "one"])

    def test_what_a_stair_raises_comes_through(self):
        for letter, name in (("m", "masks"), ("p", "powers"), ("r", "rows"), ("q", "products")):
            system = System(["x", letter * 6], [relation("x = 1")])
            with self.assertRaises(BadSystem):
                Tower(system, [name])
            with self.assertRaises(BadSystem):
                Tower(system, ["one", name, "other"])
            self.demand(system, ["other", name], 0)
            self.demand(system, ["one", "other", name], 1)

    def test_the_names_are_gone_through_in_order(self):
        system = System(["x", "pppppp"], [relation("under ; x ; pppppp")])
        self.demand(system, ["products", "powers"], 0)
        self.demand(system, ["masks", "one", "powers"], 1)
        for names in (["powers", "products"], ["masks", "powers", "other"], ["rows", "powers", "one"]):
            with self.assertRaises(BadSystem):
                Tower(system, names)


class DownAndUp(unittest.TestCase):
    def towers(self):
        """Yield towers, and solutions of their upper systems."""
        for names in ([], ["masks"], ["powers"], ["masks", "powers"], ["powers", "masks"], ["rows", "masks", "rows"]):
            for values in SOLUTIONS:
                yield Tower(mixed(), names), values
        power = System(["x", "y", "z"], [relation("power ; z ; x ; y")])
        for names in (["powers", "rows"], ["powers", "rows", "products"], ["powers", "rows", "products", "one"]):
            for x, y in ((0, 0), (0, 1), (2, 0), (1, 1), (2, 1), (1, 2)):
                yield Tower(power, names), {"x": x, "y": y, "z": x ** y}
        for names in (["rows"], ["rows", "one"], ["rows", "products", "one"], ["rows", "one", "products", "one"]):
            for n, a in ((0, 2), (1, 2), (1, 7), (2, 2), (2, 3), (3, 2)):
                yield Tower(rows(), names), {"y": row_member(n, a), "n": n, "a": a}

    def test_down_up_and_levels_are_those_of_the_stairs(self):
        for tower, values in self.towers():
            wanted = [values]
            for stair in tower.stairs:
                wanted.append(stair.down(wanted[-1]))
            kept = dict(values)
            self.assertTrue(tower.levels(values) == wanted)
            below = tower.down(values)
            self.assertTrue(below == wanted[-1])
            self.assertEqual(check(tower.lower, below), (True, 0))
            self.assertEqual(tower.up(below), values)
            self.assertEqual(values, kept)
            self.assertTrue(below == wanted[-1])

    def test_new_dicts(self):
        for tower, values in self.towers():
            kept = dict(values)
            levels = tower.levels(values)
            self.assertEqual(len(levels), len(tower.stairs) + 1)
            for found in [*levels, tower.down(values), tower.up(tower.down(values))]:
                self.assertIsNot(found, values)
                found[tower.upper.unknowns[0]] = 99
            self.assertEqual(values, kept)
            below = tower.down(values)
            self.assertIsNot(tower.up(below), below)

    def test_no_stairs(self):
        tower = Tower(mixed(), [])
        for values in ({"x": 0, "y": 1, "z": 0}, {"x": 5, "y": 5, "z": 5}):
            for found in (tower.down(values), tower.up(values), *tower.levels(values)):
                self.assertEqual(found, values)
                found["x"] = 7
            self.assertNotEqual(values["x"], 7)
            self.assertEqual(len(tower.levels(values)), 1)

    def test_what_the_stairs_raise(self):
        for names in (["masks"], ["masks", "powers"], ["powers", "masks"], ["rows"]):
            tower = Tower(mixed(), names)
            for way in (tower.down, tower.levels):
                for values, index in (({"x": 2, "y": 1, "z": 0}, 0), ({"x": 0, "y": 0, "z": 0}, 1),
                                      ({"x": 0, "y": 1, "z": 1}, 2)):
                    with self.assertRaises(NotSolution) as caught:
                        way(values)
                    self.assertEqual(caught.exception.index, index)
                for wrong in ({}, {"x": 0, "y": 1}, {"x": 0, "y": 1, "z": 0, "w": 0}, {"x": 0, "y": 1, "z": False}, None):
                    with self.assertRaises(BadValues):
                        way(wrong)
        masks = Tower(mixed(), ["masks"])
        with self.assertRaises(BadValues):
            masks.up({"x": 0, "y": 1, "z": 0})

    def test_up_solves_nothing(self):
        tower = Tower(rows(), ["rows", "products", "one"])
        values = {name: 5 for name in tower.lower.unknowns}
        self.assertEqual(tower.up(values), {"y": 5, "n": 5, "a": 5})


class OnePolynomial(unittest.TestCase):
    """8.9: the solutions of a small system are the roots of one polynomial."""

    def setUp(self):
        self.tower = Tower(rows(), ["rows", "products", "one"])
        self.root = only(self.tower.lower)

    def demand_root_or_not(self, values):
        right, _ = check(self.tower.lower, values)
        value = value_of(self.root, values)
        self.assertEqual(value == 0, right)
        self.assertTrue(value >= 0)
        if right:
            self.assertEqual(check(rows(), self.tower.up(values)), (True, 0))
        return right

    def test_the_polynomial(self):
        self.assertEqual(degree(self.root), 4)
        products = self.tower.stairs[1].lower
        self.assertTrue(all(degree(one[1]) <= 2 for one in products.relations))

    def test_solutions_are_roots_and_changed_ones_are_not(self):
        for n, a in ((0, 2), (1, 2), (1, 5), (2, 2), (2, 3), (3, 2)):
            values = self.tower.down({"y": row_member(n, a), "n": n, "a": a})
            self.assertTrue(self.demand_root_or_not(values))
            for name, change in itertools.product(self.tower.lower.unknowns, (-2, -1, 1)):
                changed = dict(values, **{name: values[name] + change})
                if changed[name] >= 0:
                    self.assertFalse(self.demand_root_or_not(changed), (n, a, name, change))

    def test_a_root_that_somebody_else_found(self):
        levels = self.tower.levels({"y": 1, "n": 1, "a": 2})
        other = dict(levels[1], r0b=37, r0s=37, r0p=9, r0q=5, r0c=5)
        self.assertEqual(check(self.tower.stairs[0].lower, other), (True, 0))
        values = self.tower.stairs[2].down(self.tower.stairs[1].down(other))
        self.assertNotEqual(values, levels[-1])
        self.assertTrue(self.demand_root_or_not(values))
        self.assertEqual(self.tower.up(values), {"y": 1, "n": 1, "a": 2})

    def test_no_root_above_what_is_no_solution(self):
        below = {n: self.tower.down({"y": row_member(n, 2), "n": n, "a": 2}) for n in range(4)}
        for n, (m, values) in itertools.product(range(4), below.items()):
            mixture = {**values, "n": n, "y": row_member(m, 2)}
            self.assertEqual(self.demand_root_or_not(mixture), n == m)

    def test_integers_of_any_sign(self):
        values = self.tower.down({"y": 1, "n": 1, "a": 2})
        signed = signed_values(values)
        negative = {name: -number for name, number in signed.items()}
        whole = with_signs(self.root)
        self.assertEqual(value_of(whole, signed), 0)
        self.assertEqual(value_of(whole, negative), 0)
        self.assertEqual(unsigned_values(negative), values)
        self.assertTrue(value_of(whole, dict(signed, r0ba=signed["r0ba"] + 1)) > 0)


class Sizes(unittest.TestCase):
    def counted(self, system):
        words = [one[0] for one in system.relations]
        return (len(system.unknowns), *(words.count(word) for word in ("zero", "under", "power", "row")))

    def test_size_of(self):
        self.assertEqual(size_of(System([], [])), (0, 0, 0, 0, 0))
        self.assertEqual(size_of(mixed()), (3, 1, 1, 1, 0))
        text = "under ; x ; y\nrow ; x ; y ; 2\nx = 1\nrow ; x ; y ; 2\nrow ; x ; y ; 2\npower ; x ; y ; 1\npower ; x ; y ; 1"
        self.assertEqual(size_of(System(["x", "y"], list(relations(text)))), (2, 1, 1, 2, 3))
        for machine in machines():
            found = size_of(history(machine))
            self.assertIsInstance(found, tuple)
            self.assertEqual(found, self.counted(history(machine)))

    def test_history_size(self):
        self.assertEqual(history_size(1, 0, 0, 1), (11, 6, 5, 2, 0))
        words = []
        for machine in machines():
            kinds = [line[0] for line in machine.table()]
            counts = [kinds.count(word) for word in ("inc", "dec", "stop")]
            words.append(tuple(counts))
            self.assertEqual(history_size(machine.registers, *counts), self.counted(history(machine)))
        self.assertTrue(all(max(count[at] for count in words) > 1 for at in range(3)), words)

    def test_sizes_against_the_towers(self):
        paths = [names for length in range(5) for names in itertools.product(ALL[:3], repeat=length)]
        systems = [mixed(), System([], []), System(["x", "y"], list(relations(
            "under ; x ; y\nrow ; x ; y ; 2\nx = 1\nrow ; x ; y ; 2\npower ; x ; y ; 1\npower ; x ; y ; 1")))]
        for system, names in itertools.product(systems, paths):
            tower = Tower(system, list(names))
            wanted = [self.counted(system), *(self.counted(stair.lower) for stair in tower.stairs)]
            found = sizes(self.counted(system), list(names))
            self.assertIsInstance(found, list)
            self.assertEqual(found, wanted, names)

    def test_sizes_of_machines(self):
        for machine in machines():
            system = asked(machine, (0,) * machine.registers, None)
            tower = Tower(system, ALL[:3])
            found = sizes(size_of(system), ALL[:3])
            self.assertEqual(found, [self.counted(one) for one in (system, *(stair.lower for stair in tower.stairs))])
            self.assertEqual(found[-1][2:], (0, 0, 0))

    def test_the_example(self):
        self.assertEqual(sizes(history_size(1, 0, 0, 1), ["masks", "powers", "rows"]), [
            (11, 6, 5, 2, 0), (51, 21, 0, 17, 0), (221, 191, 0, 0, 34), (765, 667, 0, 0, 0)])
        system = history(Machine(1, [("stop",)]))
        self.assertEqual(size_of(system), (11, 6, 5, 2, 0))
        self.assertEqual(size_of(Tower(system, ["masks", "powers", "rows"]).lower), (765, 667, 0, 0, 0))

    def test_great_sizes(self):
        self.assertEqual(sizes((10 ** 20, 1, 2, 3, 4), ["masks"]), [
            (10 ** 20, 1, 2, 3, 4), (10 ** 20 + 16, 7, 0, 9, 4)])
        self.assertEqual(sizes((0, 0, 0, 0, 0), []), [(0, 0, 0, 0, 0)])

    def test_other_names(self):
        for wrong in ("products", "one", "mask", "", None, 3):
            for names, index in (([wrong], 0), (["masks", "powers", wrong, "rows", "other"], 2), (["rows", wrong], 1)):
                with self.assertRaises(BadTower) as caught:
                    sizes((1, 2, 3, 4, 5), names)
                self.assertEqual(caught.exception.index, index)
        with self.assertRaises(BadTower):
            sizes((1, 2, 0, 0, 0), ["products"])

    def test_nothing_changes(self):
        names = ["masks", "rows"]
        sizes((1, 2, 3, 4, 5), names).clear()
        self.assertEqual(names, ["masks", "rows"])
        self.assertEqual(len(sizes((1, 2, 3, 4, 5), names)), 3)


if __name__ == "__main__":
    unittest.main()
