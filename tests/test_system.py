"""1.7 to 1.10 and the system of 1.13."""

import copy
import unittest

from runroots.errors import BadSystem, BadValues, NotSolution
from runroots.poly import constant, minus, plus, times, unknown
from runroots.system import (
    System, check, demand_solution, demand_values, demand_zeros, has_zeros_alone, joined, lowered, renamed, stem,
    values_of, with_witnesses, witness_names,
)

X, Y, Z = unknown("x"), unknown("y"), unknown("z")
SQUARE = ("zero", minus(times(X, X), constant(4)))
ROW = ("row", Y, X, constant(2))


def example():
    return System(["x", "y"], [SQUARE, ROW])


class Making(unittest.TestCase):
    def test_the_attributes(self):
        system = System(["y", "x"], [ROW, SQUARE, ROW])
        self.assertEqual(system.unknowns, ("y", "x"))
        self.assertEqual(system.relations, (ROW, SQUARE, ROW))
        self.assertIsInstance(system.unknowns, tuple)
        self.assertIsInstance(system.relations, tuple)

    def test_empty_systems(self):
        system = System([], [])
        self.assertEqual((system.unknowns, system.relations), ((), ()))
        self.assertEqual(System(["x"], []).unknowns, ("x",))
        self.assertEqual(System([], [("zero", {})]).relations, (("zero", {}),))

    def test_names_that_are_none(self):
        for wrong in ("", "1x", "a_b", "a b", "abcdefghijklm", "\u00e9", None, 1, True, ("x",), ["x"], {}, b"x"):
            for unknowns in ([wrong], ["x", wrong], [wrong, "x"]):
                with self.assertRaises(BadSystem, msg=repr(unknowns)):
                    System(unknowns, [])

    def test_a_name_twice(self):
        for unknowns in (["x", "x"], ["x", "y", "x"], ["y", "x", "x"]):
            with self.assertRaises(BadSystem):
                System(unknowns, [])
        self.assertEqual(System(["x", "X"], []).unknowns, ("x", "X"))

    def test_members_that_are_no_relations(self):
        wrong = [None, 0, "zero", (), ("zero",), ("zero", X, X), ("one", X), ["zero", X], ("zero", {("x",): 0}),
                 ("zero", {("y", "x"): 1}), ("zero", 0), ("under", X), ("power", X, Y), ("row", X, Y, 2), X, {}]
        for member in wrong:
            for relations in ([member], [SQUARE, member], [member, SQUARE]):
                with self.assertRaises(BadSystem, msg=repr(member)):
                    System(["x", "y"], relations)

    def test_names_that_are_no_unknowns(self):
        for relation in (("zero", Z), ("under", X, Z), ("under", Z, X), ("power", X, X, Z), ("power", X, Z, X),
                         ("power", Z, X, X), ("row", X, X, plus(X, Z)), ("zero", times(X, Z)), ("row", Z, X, Y)):
            with self.assertRaises(BadSystem, msg=repr(relation)):
                System(["x", "y"], [SQUARE, relation])
            self.assertEqual(System(["z", "x", "y"], [relation]).relations, (relation,))

    def test_it_copies(self):
        unknowns, relations, polynomial = ["x", "y"], [SQUARE, ROW], plus(X, Y)
        relations.append(("zero", polynomial))
        system = System(unknowns, relations)
        unknowns.append("z")
        unknowns[0] = "w"
        relations.clear()
        polynomial[("z",)] = 1
        self.assertEqual(system.unknowns, ("x", "y"))
        self.assertEqual(system.relations, (SQUARE, ROW, ("zero", {("x",): 1, ("y",): 1})))

    def test_it_changes_nothing(self):
        unknowns, relations = ["x", "y"], [SQUARE, ROW]
        kept = copy.deepcopy((unknowns, relations))
        System(unknowns, relations)
        self.assertEqual((unknowns, relations), kept)


class Kinds(unittest.TestCase):
    def test_all_words_are_there(self):
        self.assertEqual(System([], []).kinds(), {"zero": 0, "under": 0, "power": 0, "row": 0})
        self.assertEqual(example().kinds(), {"zero": 1, "under": 0, "power": 0, "row": 1})

    def test_numbers(self):
        relations = [SQUARE, ("under", X, Y), SQUARE, ("power", X, Y, X), ("under", Y, Y), SQUARE, ROW, ROW, ROW, ROW]
        self.assertEqual(System(["x", "y"], relations).kinds(), {"zero": 3, "under": 2, "power": 1, "row": 4})

    def test_new_each_time(self):
        system = example()
        system.kinds()["zero"] = 9
        system.kinds().clear()
        self.assertEqual(system.kinds(), {"zero": 1, "under": 0, "power": 0, "row": 1})


class Check(unittest.TestCase):
    def test_the_example(self):
        self.assertEqual(check(example(), {"x": 2, "y": 4}), (True, 0))
        solutions = [(x, y) for x in range(8) for y in range(60) if check(example(), {"x": x, "y": y})[0]]
        self.assertEqual(solutions, [(2, 4)])

    def test_the_first_relation_that_does_not_hold(self):
        system = System(["x", "y", "z"], [SQUARE, ROW, ("under", Z, Y), ("power", Z, X, X)])
        self.assertEqual(check(system, {"x": 2, "y": 4, "z": 4}), (True, 0))
        self.assertEqual(check(system, {"x": 3, "y": 5, "z": 8}), (False, 0))
        self.assertEqual(check(system, {"x": 2, "y": 5, "z": 8}), (False, 1))
        self.assertEqual(check(system, {"x": 2, "y": 4, "z": 8}), (False, 2))
        self.assertEqual(check(system, {"x": 2, "y": 4, "z": 0}), (False, 3))

    def test_the_kinds_of_the_answer(self):
        for values in ({"x": 2, "y": 4}, {"x": 2, "y": 5}, {"x": 1, "y": 5}):
            answer = check(example(), values)
            self.assertIsInstance(answer, tuple)
            self.assertIs(type(answer[0]), bool)
            self.assertIs(type(answer[1]), int)

    def test_no_relations(self):
        self.assertEqual(check(System([], []), {}), (True, 0))
        self.assertEqual(check(System(["x"], []), {"x": 10 ** 50}), (True, 0))

    def test_the_order_of_the_values_is_free(self):
        self.assertEqual(check(example(), {"y": 4, "x": 2}), (True, 0))

    def test_keys_that_are_not_the_unknowns(self):
        wrong = [{}, {"x": 2}, {"y": 4}, {"x": 2, "y": 4, "z": 0}, {"x": 2, "z": 4}, {"x": 2, "Y": 4},
                 {"x": 2, "y": 4, 0: 1}, {"x": 2, 0: 4}, {("x",): 2, ("y",): 4}]
        for values in wrong:
            with self.assertRaises(BadValues, msg=repr(values)):
                check(example(), values)
        with self.assertRaises(BadValues):
            check(System([], []), {"x": 1})

    def test_values_that_are_none(self):
        for wrong in (-1, -(10 ** 30), True, False, "4", "", None, 4.0, [4], (4,), {}):
            for values in ({"x": 2, "y": wrong}, {"x": wrong, "y": 4}):
                with self.assertRaises(BadValues, msg=repr(values)):
                    check(example(), values)

    def test_values_are_tested_before_the_relations(self):
        with self.assertRaises(BadValues):
            check(System(["x", "y"], [("zero", constant(1))]), {"x": 1, "y": -1})

    def test_what_is_no_dict(self):
        for values in (None, [2, 4], (2, 4), [("x", 2), ("y", 4)], "xy", 2, ["x", "y"], {"x", "y"}, True):
            with self.assertRaises(BadValues, msg=repr(values)):
                check(example(), values)
        for values in ([], (), "", None):
            with self.assertRaises(BadValues, msg=repr(values)):
                check(System([], []), values)

    def test_nothing_changes(self):
        system, values = example(), {"x": 2, "y": 5}
        check(system, values)
        self.assertEqual(values, {"x": 2, "y": 5})
        self.assertEqual((system.unknowns, system.relations), (("x", "y"), (SQUARE, ROW)))


class Joined(unittest.TestCase):
    def test_names_of_both(self):
        first = System(["b", "x", "y"], [SQUARE])
        second = System(["z", "y", "a", "x"], [("under", Y, Z), SQUARE])
        both = joined(first, second)
        self.assertIsInstance(both, System)
        self.assertEqual(both.unknowns, ("b", "x", "y", "z", "a"))
        self.assertEqual(both.relations, (SQUARE, ("under", Y, Z), SQUARE))
        self.assertEqual(joined(second, first).unknowns, ("z", "y", "a", "x", "b"))
        self.assertEqual(joined(second, first).relations, (("under", Y, Z), SQUARE, SQUARE))

    def test_empty_systems(self):
        empty = System([], [])
        for both in (joined(example(), empty), joined(empty, example())):
            self.assertEqual((both.unknowns, both.relations), (("x", "y"), (SQUARE, ROW)))
        self.assertEqual(joined(empty, empty).unknowns, ())
        self.assertEqual(joined(empty, empty).relations, ())

    def test_with_itself(self):
        system = example()
        both = joined(system, system)
        self.assertEqual((both.unknowns, both.relations), (("x", "y"), (SQUARE, ROW, SQUARE, ROW)))

    def test_nothing_changes_and_the_result_is_new(self):
        first, second = example(), System(["z"], [("zero", Z)])
        for both in (joined(first, second), joined(first, System([], [])), joined(System([], []), first)):
            self.assertIsNot(both, first)
            both.relations[0][1][("w",)] = 1
        self.assertEqual((first.unknowns, first.relations), (("x", "y"), (SQUARE, ROW)))
        self.assertEqual((second.unknowns, second.relations), (("z",), (("zero", Z),)))


class Renamed(unittest.TestCase):
    def test_each_name_has_the_prefix(self):
        made = renamed(System(["x", "B2"], [("zero", {("B2", "x", "x"): 3, (): -1}),
                                            ("row", X, unknown("B2"), constant(2))]), "pQ1")
        self.assertIsInstance(made, System)
        self.assertEqual(made.unknowns, ("pQ1x", "pQ1B2"))
        self.assertEqual(made.relations, (
            ("zero", {("pQ1B2", "pQ1x", "pQ1x"): 3, (): -1}),
            ("row", {("pQ1x",): 1}, {("pQ1B2",): 1}, {(): 2}),
        ))

    def test_it_has_the_same_solutions(self):
        made = renamed(example(), "p")
        self.assertEqual(check(made, {"px": 2, "py": 4}), (True, 0))
        self.assertEqual(check(made, {"px": 2, "py": 5}), (False, 1))

    def test_up_to_twelve_characters(self):
        self.assertEqual(renamed(System(["x", "y2"], []), "abcdefghij").unknowns, ("abcdefghijx", "abcdefghijy2"))
        self.assertEqual(renamed(System(["abcdefghijk"], []), "p").unknowns, ("pabcdefghijk",))

    def test_beyond_twelve_characters(self):
        for unknowns, prefix in ((["x", "y23"], "abcdefghij"), (["abcdefghijkl"], "p"), (["x"], "abcdefghijkl")):
            with self.assertRaises(BadSystem):
                renamed(System(unknowns, []), prefix)
        with self.assertRaises(BadSystem):
            renamed(System(["x"], [("zero", X)]), "abcdefghijkl")

    def test_an_empty_system(self):
        made = renamed(System([], [("zero", {})]), "abcdefghijkl")
        self.assertEqual((made.unknowns, made.relations), ((), (("zero", {}),)))

    def test_nothing_changes(self):
        system = example()
        renamed(system, "p").relations[1][3][()] = 5
        self.assertEqual((system.unknowns, system.relations), (("x", "y"), (SQUARE, ROW)))


class Stem(unittest.TestCase):
    def test_one_letter(self):
        self.assertEqual(stem(System([], []), "p"), "p")
        self.assertEqual(stem(example(), "p"), "p")
        self.assertEqual(stem(System(["P", "ap", "xp"], []), "p"), "p")
        self.assertEqual(stem(System(["p", "ap"], []), "P"), "P")

    def test_more_letters(self):
        self.assertEqual(stem(example(), "x"), "xx")
        self.assertEqual(stem(System(["p0s"], []), "p"), "pp")
        self.assertEqual(stem(System(["p0s", "ppx"], []), "p"), "ppp")
        self.assertEqual(stem(System(["ppx"], []), "p"), "ppp")
        self.assertEqual(stem(System(["pxp", "x", "ppPp"], []), "p"), "ppp")

    def test_the_limit(self):
        for length in range(6):
            self.assertEqual(stem(System(["x", "m" * length + "a"], []), "m"), "m" * (length + 1))
        for length in range(6, 12):
            with self.assertRaises(BadSystem):
                stem(System(["x", "m" * length + "a"], []), "m")
        with self.assertRaises(BadSystem):
            stem(System(["mmmmmm"], []), "m")
        self.assertEqual(stem(System(["mmmmmm"], []), "n"), "n")


class Demands(unittest.TestCase):
    def test_demand_values(self):
        demand_values(example(), {"x": 7, "y": 7})
        for values in ({}, {"x": 2}, {"x": 2, "y": -4}, {"x": 2, "y": True}, {"x": 2, "y": 4, "z": 0}, None):
            with self.assertRaises(BadValues):
                demand_values(example(), values)

    def test_demand_solution(self):
        demand_solution(example(), {"x": 2, "y": 4})
        for values, index in (({"x": 3, "y": 4}, 0), ({"x": 2, "y": 5}, 1)):
            with self.assertRaises(NotSolution) as caught:
                demand_solution(example(), values)
            self.assertEqual(caught.exception.index, index)
        with self.assertRaises(BadValues):
            demand_solution(example(), {"x": 3})

    def test_zeros_alone(self):
        for some in ([], [SQUARE], [SQUARE, ("zero", {}), SQUARE]):
            system = System(["x"], some)
            self.assertIs(has_zeros_alone(system), True)
            demand_zeros(system)
        for one in (ROW, ("under", X, Y), ("power", X, Y, X)):
            for some in ([one], [SQUARE, one], [one, SQUARE]):
                system = System(["x", "y"], some)
                self.assertIs(has_zeros_alone(system), False)
                with self.assertRaises(BadSystem):
                    demand_zeros(system)


class Stairs(unittest.TestCase):
    """What stairs share, with a stair that means nothing."""

    def upper(self):
        return System(["x", "w", "y"], [SQUARE, ("under", X, Y), SQUARE, ("under", Y, Y)])

    def test_names(self):
        self.assertEqual(witness_names(self.upper(), "under", "w", "ab"),
                         {1: ["ww1a", "ww1b"], 3: ["ww3a", "ww3b"]})
        self.assertEqual(witness_names(self.upper(), "power", "w", "ab"), {})
        with self.assertRaises(BadSystem):
            witness_names(System(["wwwwww"], []), "power", "w", "ab")

    def test_lowered(self):
        def write(relation, witnesses):
            return [("zero", minus(relation[1], witnesses[0])), ("under", *witnesses)]

        system = lowered(self.upper(), {1: ["a", "b"], 3: ["c", "d"]}, write)
        self.assertEqual(system.unknowns, ("x", "w", "y", "a", "b", "c", "d"))
        self.assertEqual(system.relations, (
            SQUARE, ("zero", minus(X, unknown("a"))), ("under", unknown("a"), unknown("b")),
            SQUARE, ("zero", minus(Y, unknown("c"))), ("under", unknown("c"), unknown("d"))))
        with self.assertRaises(BadSystem):
            lowered(self.upper(), {1: ["abcdefghijklm", "b"]}, write)

    def test_values(self):
        values = {"x": 2, "w": 9, "y": 6}
        found = with_witnesses(self.upper(), {1: ["a", "b"], 3: ["c", "d"]}, lambda a, b: [a + b, a * b], values)
        self.assertEqual(found, {"x": 2, "w": 9, "y": 6, "a": 8, "b": 12, "c": 12, "d": 36})
        self.assertEqual(values, {"x": 2, "w": 9, "y": 6})
        self.assertEqual(values_of(self.upper(), found), values)
        with self.assertRaises(NotSolution):
            with_witnesses(self.upper(), {}, None, {"x": 2, "w": 9, "y": 5})


if __name__ == "__main__":
    unittest.main()
