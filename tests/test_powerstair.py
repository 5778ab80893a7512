"""5.6 to 5.11: the stair from "power" relations to rows."""

import copy
import itertools
import unittest

from runroots.counters import Machine
from runroots.errors import BadSystem, BadValues, NotSolution
from runroots.history import history, run_of, solution
from runroots.masks import MaskStair
from runroots.powerstair import PowerStair
from runroots.system import System, check
from tests.formulas import relation, relations

LETTERS = "stvuhwbcqr"
EXAMPLE = {"x": 3, "y": 2, "z": 9}
NUMBERS = {"s": 0, "t": 2, "v": 0, "u": 1, "h": 9, "w": 63, "b": 8711, "c": 132, "q": 1, "r": 376}
# Relations of other kinds around two "power", with polynomials of all sorts.
KINDS = """
    under ; x ; z
    power ; z + 1 ; x * x ; y - 1
    row ; 1 ; x ; y + 1
    power ; 8 ; 2 ; x + y
    x = 1
"""


def example():
    return System(["x", "y", "z"], list(relations("power ; z ; x ; y")))


def names(stem, *indexes):
    return tuple(f"{stem}{index}{letter}" for index in indexes for letter in LETTERS)


def wanted_relations(stem, index, z, x, y):
    given = dict(zip(LETTERS, names(stem, index)))
    s, w = given["s"], given["w"]
    g = f"({x} + {s})"
    return relations("""
        X * s = 0
        s * s - s = 0
        X + s - 1 - t = 0
        Y * v = 0
        v * v - v = 0
        Y + v - 1 - u = 0
        row ; w ; Y + 1 ; g + 1
        row ; c ; Y ; w + g
        b * b - ((w + g) * (w + g) - 1) * c * c - 1 = 0
        b - c * w - h - k * q = 0
        k - 1 - h - r = 0
        Z - h + s * h - s * v = 0
    """, {**given, "X": x, "Y": y, "Z": z, "g": g, "k": f"2 * {w} * {g} + {g} * {g} - 1"})


def slow_row(a):
    """Yield the pairs of a."""
    one, other = (1, 0), (a, 1)
    while True:
        yield one
        one, other = other, (2 * a * other[0] - one[0], 2 * a * other[1] - one[1])


def wanted_numbers(x, y):
    """Return the values of the witnesses as [5.7] tells them."""
    s, v = (1 if x == 0 else 0), (1 if y == 0 else 0)
    g = x + s
    h = g ** y
    w = next(itertools.islice(slow_row(g + 1), y + 1, None))[1]
    b, c = next(itertools.islice(slow_row(w + g), y, None))
    k = 2 * w * g + g * g - 1
    q, left = divmod(b - c * w - h, k)
    assert left == 0
    return {"s": s, "t": x + s - 1, "v": v, "u": y + v - 1, "h": h, "w": w, "b": b, "c": c, "q": q, "r": k - 1 - h}


class TheLowerSystem(unittest.TestCase):
    def test_the_example(self):
        stair = PowerStair(example())
        self.assertIsInstance(stair.lower, System)
        self.assertEqual(stair.lower.unknowns, ("x", "y", "z", *names("p", 0)))
        self.assertEqual(stair.lower.relations, wanted_relations("p", 0, "z", "x", "y"))

    def test_relations_of_all_kinds(self):
        stair = PowerStair(System(["x", "y", "z"], list(relations(KINDS))))
        given = relations(KINDS)
        self.assertEqual(stair.lower.unknowns, ("x", "y", "z", *names("p", 1, 3)))
        self.assertEqual(stair.lower.relations, (
            given[:1] + wanted_relations("p", 1, "z + 1", "x * x", "y - 1") + given[2:3] +
            wanted_relations("p", 3, "8", "2", "x + y") + given[4:]))
        self.assertEqual(stair.lower.kinds(), {"zero": 21, "under": 1, "power": 0, "row": 5})

    def test_names_that_begin_with_the_letter(self):
        for unknowns, stem in ((["p", "y"], "pp"), (["p0s", "y"], "pp"), (["px", "ppy"], "ppp"), (["P", "xp"], "p"),
                               (["ppppp", "y"], "pppppp")):
            first, second = unknowns
            stair = PowerStair(System(unknowns, [relation(f"power ; {first} ; {second} ; 3")]))
            self.assertEqual(stair.lower.unknowns, (*unknowns, *names(stem, 0)))
            self.assertEqual(stair.lower.relations, wanted_relations(stem, 0, first, second, "3"))

    def test_more_than_ten_relations(self):
        stair = PowerStair(System(["x"], [relation("power ; x ; x ; 1"), ("zero", {})] * 6))
        self.assertEqual(stair.lower.unknowns, ("x", *names("p", 0, 2, 4, 6, 8, 10)))
        wanted = [wanted_relations("p", index, "x", "x", "1") + (("zero", {}),) for index in range(0, 12, 2)]
        self.assertEqual(stair.lower.relations, tuple(itertools.chain(*wanted)))

    def test_nothing_to_replace(self):
        upper = System(["x", "p"], list(relations("x = p\nrow ; x ; p ; 2\nunder ; x ; p")))
        stair = PowerStair(upper)
        self.assertEqual((stair.lower.unknowns, stair.lower.relations), (upper.unknowns, upper.relations))
        self.assertEqual(stair.down({"x": 1, "p": 1}), {"x": 1, "p": 1})

    def test_no_stem_is_free(self):
        for some in ([], [relation("x = 0")], [relation("power ; x ; x ; 1")]):
            with self.assertRaises(BadSystem):
                PowerStair(System(["x", "pppppp"], some))

    def test_names_that_are_too_long(self):
        filling = [("zero", {})] * 99999
        upper = System(["x", "ppppp"], filling + [relation("power ; x ; x ; 1")])
        self.assertEqual(PowerStair(upper).lower.unknowns[2], "pppppp99999s")
        upper = System(["x", "ppppp"], filling + [("zero", {}), relation("power ; x ; x ; 1")])
        with self.assertRaises(BadSystem):
            PowerStair(upper)

    def test_the_upper_system_stays(self):
        upper = System(["x", "y", "z"], list(relations(KINDS)))
        kept = copy.deepcopy((upper.unknowns, upper.relations))
        stair = PowerStair(upper)
        self.assertIs(stair.upper, upper)
        for one in stair.lower.relations:
            one[1][("x", "x")] = 5
        self.assertEqual((upper.unknowns, upper.relations), kept)


class Down(unittest.TestCase):
    def test_the_example(self):
        stair = PowerStair(example())
        wanted = {**EXAMPLE, **{f"p0{letter}": number for letter, number in NUMBERS.items()}}
        self.assertEqual(stair.down(EXAMPLE), wanted)
        self.assertEqual(check(stair.lower, wanted), (True, 0))
        self.assertEqual(wanted_numbers(3, 2), NUMBERS)

    def test_small_numbers(self):
        stair = PowerStair(example())
        for x, y in itertools.product(range(9), range(7)):
            values = stair.down({"x": x, "y": y, "z": x ** y})
            wanted = {f"p0{letter}": number for letter, number in wanted_numbers(x, y).items()}
            self.assertEqual(values, {"x": x, "y": y, "z": x ** y, **wanted})
            self.assertEqual(check(stair.lower, values), (True, 0))

    def test_bases_and_exponents_zero(self):
        stair = PowerStair(example())
        for x, y, z in ((0, 0, 1), (0, 1, 0), (0, 5, 0), (1, 0, 1), (7, 0, 1), (1, 9, 1), (10 ** 30, 0, 1)):
            values = stair.down({"x": x, "y": y, "z": z})
            self.assertEqual((values["p0s"], values["p0v"]), (int(x == 0), int(y == 0)))
            self.assertEqual(values["p0h"], 1)
            self.assertEqual(check(stair.lower, values), (True, 0))

    def test_greater_numbers(self):
        stair = PowerStair(example())
        for x, y in ((2, 60), (3, 40), (10 ** 20, 3), (10 ** 50, 1)):
            values = stair.down({"x": x, "y": y, "z": x ** y})
            wanted = {f"p0{letter}": number for letter, number in wanted_numbers(x, y).items()}
            self.assertTrue(values == {"x": x, "y": y, "z": x ** y, **wanted})
            self.assertEqual(check(stair.lower, values), (True, 0))

    def test_polynomials(self):
        upper = System(["x", "y", "z"], list(relations(KINDS)))
        values = {"x": 1, "y": 2, "z": 0}
        with self.assertRaises(NotSolution) as caught:
            PowerStair(upper).down(values)
        self.assertEqual(caught.exception.index, 0)
        upper = System(["x", "y", "z"], list(relations(KINDS))[1:])
        stair = PowerStair(upper)
        below = stair.down(values)
        for index, x, y in ((0, 1, 1), (2, 2, 3)):
            for letter, number in wanted_numbers(x, y).items():
                self.assertEqual(below[f"p{index}{letter}"], number)
        self.assertEqual(len(below), 23)
        self.assertEqual(check(stair.lower, below), (True, 0))
        self.assertEqual(stair.up(below), values)

    def test_the_index_of_no_solution(self):
        upper = System(["x", "y"], list(relations("x = y\npower ; y ; x ; 1\nunder ; 1 ; y\npower ; 8 ; 2 ; y")))
        stair = PowerStair(upper)
        self.assertEqual(stair.up(stair.down({"x": 3, "y": 3})), {"x": 3, "y": 3})
        for values, index in (({"x": 3, "y": 4}, 0), ({"x": 4, "y": 4}, 2), ({"x": 5, "y": 5}, 3)):
            with self.assertRaises(NotSolution) as caught:
                stair.down(values)
            self.assertEqual(caught.exception.index, index)
        for x, y, z in ((3, 2, 8), (3, 2, 10), (0, 0, 0), (0, 3, 1), (5, 0, 0), (2, 10 ** 30, 4)):
            with self.assertRaises(NotSolution) as caught:
                PowerStair(example()).down({"x": x, "y": y, "z": z})
            self.assertEqual(caught.exception.index, 0)

    def test_no_values(self):
        stair = PowerStair(example())
        for wrong in ({}, {"x": 3, "y": 2}, dict(EXAMPLE, w=0), dict(EXAMPLE, y=True), dict(EXAMPLE, x=-3),
                      dict(EXAMPLE, z="9"), None, [3, 2, 9], stair.down(EXAMPLE), dict(EXAMPLE, x=-3, z=8)):
            with self.assertRaises(BadValues, msg=repr(wrong)):
                stair.down(wrong)

    def test_nothing_changes(self):
        stair, values = PowerStair(example()), dict(EXAMPLE)
        stair.down(values)["x"] = 5
        self.assertEqual(values, EXAMPLE)
        self.assertEqual(stair.down(values)["x"], 3)


class Up(unittest.TestCase):
    def test_witnesses_are_left_out(self):
        stair = PowerStair(example())
        values = stair.down(EXAMPLE)
        kept = dict(values)
        self.assertEqual(stair.up(values), EXAMPLE)
        stair.up(values)["x"] = 5
        self.assertEqual(values, kept)

    def test_values_are_not_checked(self):
        stair = PowerStair(example())
        self.assertEqual(stair.up(dict(stair.down(EXAMPLE), z=10)), dict(EXAMPLE, z=10))
        self.assertEqual(stair.up(dict(stair.down(EXAMPLE), x=-1, p0h="no")), dict(EXAMPLE, x=-1))
        self.assertEqual(stair.up(dict(stair.down(EXAMPLE), more=7)), EXAMPLE)
        self.assertEqual(stair.up(EXAMPLE), EXAMPLE)


class Exact(unittest.TestCase):
    """5.9: no witnesses make another power hold."""

    def test_another_power(self):
        stair = PowerStair(example())
        for x, y in itertools.product(range(5), range(4)):
            values = stair.down({"x": x, "y": y, "z": x ** y})
            for change in (-x ** y, -2, -1, 1, 2, x, values["p0w"]):
                changed = dict(values, z=x ** y + change)
                if change and changed["z"] >= 0:
                    self.assertEqual(check(stair.lower, changed), (False, 11))

    def test_witnesses_that_go_with_another_power(self):
        stair = PowerStair(example())
        for x, y in itertools.product(range(5), range(4)):
            values = stair.down({"x": x, "y": y, "z": x ** y})
            g = x + values["p0s"]
            k = 2 * values["p0w"] * g + g * g - 1
            rest = values["p0b"] - values["p0c"] * values["p0w"]
            for h in range(0, min(rest + 1, 3 * k), max(1, k // 200)):
                z = (h if x else values["p0v"]) if h != values["p0h"] else values["z"] + 1
                changed = dict(values, z=z, p0h=h, p0q=(rest - h) // k, p0r=abs(k - 1 - h))
                self.assertFalse(check(stair.lower, changed)[0], (x, y, h))

    def test_witnesses_of_another_base_or_exponent(self):
        stair = PowerStair(example())
        places = list(itertools.product(range(4), repeat=2))
        for (x, y), (u, v) in itertools.product(places, places):
            if x ** y != u ** v:
                values = dict(stair.down({"x": u, "y": v, "z": u ** v}), x=x, y=y)
                self.assertFalse(check(stair.lower, values)[0], (x, y, u, v))

    def test_changed_witnesses(self):
        stair = PowerStair(example())
        for x, y in itertools.product(range(4), repeat=2):
            values = stair.down({"x": x, "y": y, "z": x ** y})
            for name in values:
                for change in (-values[name], -1, 1, 2):
                    changed = dict(values, **{name: values[name] + change})
                    if change and changed[name] >= 0:
                        self.assertFalse(check(stair.lower, changed)[0], (x, y, name, change))


class BelowMasks(unittest.TestCase):
    """0.3: two stairs one below the other."""

    def test_a_run(self):
        machine = Machine(1, [("stop",)])
        masks = MaskStair(history(machine))
        powers = PowerStair(masks.lower)
        self.assertEqual(powers.lower.kinds(), {"zero": 191, "under": 0, "power": 0, "row": 34})
        self.assertEqual(len(powers.lower.unknowns), 221)
        for number, c in ((0, 1), (0, 2), (1, 2)):
            run = [(0, (number,))]
            values = powers.down(masks.down(solution(machine, run, c)))
            self.assertEqual(check(powers.lower, values), (True, 0))
            self.assertEqual(run_of(machine, masks.up(powers.up(values))), run)


if __name__ == "__main__":
    unittest.main()
