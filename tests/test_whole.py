"""8.7 to 8.11: from the text of a machine to one polynomial, and from runs to solutions and back."""

import itertools
import unittest

from runroots.counters import Machine, is_run
from runroots.errors import (
    BadMachine, BadRun, BadSystem, BadText, BadTower, BadValues, NotSolution, RootsError, TooFew,
)
from runroots.history import asked, history, least_bits, solution
from runroots.listing import machine_of, machine_text
from runroots.masks import mask_sizes
from runroots.onepoly import only
from runroots.poly import degree, names_in
from runroots.system import check
from runroots.tower import Tower, history_size, size_of, sizes
from runroots.whole import carried, equations, least_cost, read

STOP = "machine 1 1\nstop\n"
ADDER = "machine 2 3\ndec 0 1 2\ninc 1 0\nstop\n"
CLEAR = "machine 1 2\ndec 0 0 1\nstop\n"
COUNT = "machine 1 2\ninc 0 1\nstop\n"
ALL = ["masks", "powers", "rows", "products", "one"]
# The paths of stairs along which solutions can be written down, with machines, inputs and numbers of bits.
RUNS = [
    ([], ADDER, (3, 2), 4), ([], ADDER, (40, 9), 7), ([], CLEAR, (9,), 5), ([], STOP, (10 ** 30,), 120),
    (["masks"], ADDER, (0, 1), 2), (["masks"], CLEAR, (0,), 2), (["masks"], CLEAR, (1,), 2), (["masks"], COUNT, (2,), 3),
    (["masks"], STOP, (5,), 6), (["masks", "powers"], STOP, (0,), 1), (["masks", "powers"], STOP, (1,), 2),
    (["masks", "powers"], COUNT, (0,), 2), (["powers", "masks"], STOP, (0,), 1), (["masks", "masks"], STOP, (1,), 3),
]


def run_from(text, inputs):
    run = machine_of(text).run(inputs, 1000)
    assert is_run(machine_of(text), run)
    return run


def towers(text, inputs, names):
    """Return the towers that begin with the history of a machine, or with what is asked about the inputs."""
    machine = machine_of(text)
    answers = run_from(text, inputs)[-1][1]
    return [Tower(history(machine), names), equations(text, inputs, None, names),
            equations(text, inputs, answers, names)]


class Equations(unittest.TestCase):
    def test_the_tower(self):
        for text, inputs, answers, names in (
                (ADDER, (3, 4), None, []), (ADDER, (3, 4), (0, 7), ["masks"]), (STOP, (0,), (5,), ["powers", "masks"]),
                (CLEAR, (2,), None, ["masks", "powers", "rows"]), (STOP, (0,), None, ALL)):
            tower = equations(text, inputs, answers, names)
            self.assertIsInstance(tower, Tower)
            wanted = Tower(asked(machine_of(text), inputs, answers), names)
            self.assertEqual(tower.upper.relations, asked(machine_of(text), inputs, answers).relations)
            self.assertEqual(tower.lower.unknowns, wanted.lower.unknowns)
            self.assertEqual(tower.lower.relations, wanted.lower.relations)
            self.assertEqual([type(stair) for stair in tower.stairs], [type(stair) for stair in wanted.stairs])

    def test_bad_texts(self):
        for text, line in (("", 1), ("machine 1 1\nstop", 2), ("machine 1 2\nstop\ninc 1 0\n", 3),
                           ("machine 1 1\ninc 0 0\n", 2), ("machine 1 1\nstop\nstop\n", 3)):
            for inputs, answers, names in (((0,), None, ALL), (None, True, ["no"])):
                with self.assertRaises(BadText) as caught:
                    equations(text, inputs, answers, names)
                self.assertEqual(caught.exception.line, line)

    def test_bad_values(self):
        for inputs, answers in (((0,), None), ((0, 1, 2), None), ([0, 1], None), ((0, -1), None), ((0, True), None),
                                (None, None), ((0, 1), (0,)), ((0, 1), [0, 1]), ((0, 1), (0, "1")), ((0, 1), ())):
            for names in ([], ALL, ["no"], ["one"]):
                with self.assertRaises(BadValues):
                    equations(ADDER, inputs, answers, names)

    def test_bad_towers(self):
        for names, index in ((["no"], 0), (["one"], 0), (["masks", "powers", "products"], 2), (ALL + ["no"], 5)):
            with self.assertRaises(BadTower) as caught:
                equations(ADDER, (1, 1), None, names)
            self.assertEqual(caught.exception.index, index)

    def test_one_polynomial_for_each_question(self):
        seen = []
        for text, inputs in ((STOP, (0,)), (STOP, (1,)), (CLEAR, (0,)), (ADDER, (3, 4)),
                             ("machine 1 2\ninc 0 0\nstop\n", (0,))):
            tower = equations(text, inputs, None, ALL)
            root = only(tower.lower)
            self.assertEqual(degree(root), 4)
            self.assertTrue(set(names_in(root)) <= set(tower.lower.unknowns))
            self.assertNotIn(root, seen)
            seen.append(root)


class Carried(unittest.TestCase):
    def test_down_of_the_solution(self):
        for names, text, inputs, c in RUNS:
            machine, run = machine_of(text), run_from(text, inputs)
            for tower in towers(text, inputs, names):
                values = carried(machine, run, c, tower)
                self.assertTrue(values == tower.down(solution(machine, run, c)))
                self.assertEqual(check(tower.lower, values), (True, 0))

    def test_bad_runs(self):
        machine, tower = machine_of(ADDER), equations(ADDER, (0, 1), None, ["masks"])
        run = run_from(ADDER, (0, 1))
        for wrong in ([], run[:-1], run[1:], run + run, None, tuple(run), [(0, (0, True)), (2, (0, 1))]):
            for c in (0, 2, 5):
                with self.assertRaises(BadRun, msg=repr(wrong)):
                    carried(machine, wrong, c, tower)

    def test_too_few_bits(self):
        machine, run = machine_of(ADDER), run_from(ADDER, (0, 1))
        for names in ([], ["masks"]):
            tower = equations(ADDER, (0, 1), None, names)
            for c in (1, 0, -3):
                with self.assertRaises(TooFew):
                    carried(machine, run, c, tower)
            carried(machine, run, 2, tower)

    def test_a_run_that_was_not_asked_for(self):
        machine, run = machine_of(ADDER), run_from(ADDER, (0, 1))
        for inputs, answers, index in (((1, 1), None, 0), ((0, 2), None, 1), ((0, 1), (1, 1), 2), ((0, 1), (0, 2), 3)):
            tower = equations(ADDER, inputs, answers, ["masks"])
            with self.assertRaises(NotSolution) as caught:
                carried(machine, run, 2, tower)
            self.assertEqual(caught.exception.index, len(history(machine).relations) + index)

    def test_nothing_changes(self):
        machine, run = machine_of(ADDER), run_from(ADDER, (0, 1))
        tower = equations(ADDER, (0, 1), None, ["masks"])
        kept = list(run)
        carried(machine, run, 2, tower).clear()
        self.assertEqual(run, kept)
        self.assertTrue(len(carried(machine, run, 2, tower)) > 50)


class Read(unittest.TestCase):
    def test_there_and_back(self):
        for names, text, inputs, c in RUNS:
            machine, run = machine_of(text), run_from(text, inputs)
            for tower in towers(text, inputs, names):
                values = carried(machine, run, c, tower)
                kept = dict(values)
                self.assertEqual(read(machine, tower, values), run)
                self.assertTrue(values == kept)

    def demand_read(self, machine, tower, values):
        """What is read is a run, or it is told what is wrong, and nothing else happens."""
        negative = any(number < 0 for number in values.values())
        try:
            run = read(machine, tower, values)
        except BadValues:
            self.assertTrue(negative)
            return
        except NotSolution as caught:
            self.assertFalse(negative)
            self.assertEqual(check(tower.lower, values), (False, caught.index))
            return
        self.assertFalse(negative)
        self.assertEqual(check(tower.lower, values), (True, 0))
        self.assertTrue(is_run(machine, run))

    def test_values_with_one_changed(self):
        for names, text, inputs, c in RUNS[2:]:
            machine = machine_of(text)
            for tower in towers(text, inputs, names):
                values = carried(machine, run_from(text, inputs), c, tower)
                for name, change in itertools.product(tower.lower.unknowns, (-2, -1, 1)):
                    self.demand_read(machine, tower, dict(values, **{name: values[name] + change}))

    def test_mixed_values(self):
        """Each value is that of one of two runs: few of the mixtures are solutions, but some are."""
        machine = machine_of(COUNT)
        tower = Tower(history(machine), [])
        first, second = [carried(machine, run_from(COUNT, (number,)), 4, tower) for number in (1, 4)]
        differing = [name for name in first if first[name] != second[name]]
        self.assertEqual(differing, ["X0", "Y0", "R0", "W0"])
        found = 0
        for chosen in itertools.product((first, second), repeat=4):
            values = dict(first, **{name: one[name] for name, one in zip(differing, chosen)})
            self.demand_read(machine, tower, values)
            found = found + check(tower.lower, values)[0]
        self.assertEqual(found, 2)

    def test_a_solution_that_was_not_carried(self):
        """A solution with other values for what the stair leaves free, or with a greater c, is read as well."""
        machine, run = machine_of(STOP), run_from(STOP, (1,))
        for names in ([], ["masks"]):
            tower = equations(STOP, (1,), None, names)
            found = [carried(machine, run, c, tower) for c in (2, 3, 4)]
            self.assertEqual(len({tuple(values.items()) for values in found}), 3)
            for values in found:
                self.assertEqual(read(machine, tower, dict(sorted(values.items()))), run)

    def test_values_for_other_inputs(self):
        machine = machine_of(ADDER)
        for names in ([], ["masks"]):
            values = carried(machine, run_from(ADDER, (0, 1)), 2, Tower(history(machine), names))
            for inputs, answers, index in (((1, 1), None, -2), ((0, 2), None, -1), ((0, 1), (1, 1), -2),
                                           ((0, 1), (0, 0), -1), ((1, 0), (0, 1), -4)):
                tower = equations(ADDER, inputs, answers, names)
                with self.assertRaises(NotSolution) as caught:
                    read(machine, tower, values)
                self.assertEqual(caught.exception.index, len(tower.lower.relations) + index)

    def test_no_values(self):
        machine = machine_of(STOP)
        for names in ([], ["masks"], ["masks", "powers"]):
            tower = equations(STOP, (0,), None, names)
            good = carried(machine, run_from(STOP, (0,)), 1, tower)
            for wrong in ({}, dict(good, more=0), dict(good, T=False), dict(good, Q=-2), dict(good, I="1"), None, [good],
                          {name: number for name, number in good.items() if name != "T"}):
                with self.assertRaises(BadValues):
                    read(machine, tower, wrong)
        tower = equations(STOP, (0,), None, ["masks"])
        with self.assertRaises(BadValues):
            read(machine, tower, solution(machine, run_from(STOP, (0,)), 1))

    def test_values_that_solve_nothing(self):
        machine = machine_of(STOP)
        for names in (["masks", "powers", "rows"], ALL):
            tower = equations(STOP, (0,), None, names)
            for number in (0, 1, 2):
                values = dict.fromkeys(tower.lower.unknowns, number)
                with self.assertRaises(NotSolution) as caught:
                    read(machine, tower, values)
                self.assertEqual((False, caught.exception.index), check(tower.lower, values))


class LeastCost(unittest.TestCase):
    def test_dicts(self):
        for numbers, wanted in (([], 0), ([0], 0), ([0, 0], 0), ([1], 1), ([1, 0], 1), ([2, 3, 1], 2), ([4, 7], 3),
                                ([0, 255, 3], 8), ([256, 255], 9), ([2 ** 1000, 5], 1001), ([2 ** 1000 - 1, 5], 1000)):
            values = {f"n{at}": number for at, number in enumerate(numbers)}
            self.assertEqual(least_cost(values), wanted)
            self.assertEqual(len(values), len(numbers))

    def test_solutions(self):
        machine, run = machine_of(ADDER), run_from(ADDER, (0, 1))
        tower = equations(ADDER, (0, 1), None, ["masks"])
        upper, lower = tower.levels(solution(machine, run, 2))
        self.assertEqual(least_cost(upper), max(len(f"{number:b}") for number in upper.values()))
        self.assertTrue(least_cost(lower) >= max(mask_sizes(tower.upper, upper)) > 10 * least_cost(upper))


class Example(unittest.TestCase):
    """8.11."""

    def test_the_least_machine(self):
        machine = machine_of(STOP)
        self.assertEqual((machine.registers, machine.size), (1, 1))
        self.assertEqual(history_size(1, 0, 0, 1), (11, 6, 5, 2, 0))
        self.assertEqual(size_of(history(machine)), (11, 6, 5, 2, 0))
        self.assertEqual(sizes((11, 6, 5, 2, 0), ALL[:3]), [
            (11, 6, 5, 2, 0), (51, 21, 0, 17, 0), (221, 191, 0, 0, 34), (765, 667, 0, 0, 0)])

    def test_its_run(self):
        machine = machine_of(STOP)
        run = machine.run((0,), 9)
        self.assertEqual((run, least_bits(run)), ([(0, (0,))], 1))
        values = solution(machine, run, 1)
        self.assertEqual(values.pop("Q"), 2)
        self.assertEqual(values.pop("T"), 0)
        self.assertEqual(set(values.values()), {0, 1})
        tower = equations(STOP, (0,), (0,), ["masks", "powers"])
        self.assertEqual(read(machine, tower, carried(machine, run, 1, tower)), run)


class Errors(unittest.TestCase):
    """0.5, for the whole program: each error is a RootsError, and none is one of another kind."""

    def test_kinds(self):
        kinds = [BadMachine, BadRun, BadSystem, BadText, BadTower, BadValues, NotSolution, TooFew]
        for kind, other in itertools.permutations(kinds, 2):
            self.assertFalse(issubclass(kind, other))
            self.assertTrue(issubclass(kind, RootsError))

    def test_texts_there_and_back(self):
        for text in (STOP, ADDER, CLEAR, COUNT):
            self.assertEqual(machine_text(machine_of(text)), text)
            self.assertIsInstance(machine_of(text), Machine)


if __name__ == "__main__":
    unittest.main()
