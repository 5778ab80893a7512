"""Part 3: the history of a machine as a system, its solutions and its runs."""

import copy
import itertools
import unittest

from runroots.counters import Machine
from runroots.errors import BadRun, BadValues, NotSolution, TooFew
from runroots.history import asked, digits_of, history, least_bits, number_of, run_of, solution
from runroots.system import System, check
from tests.formulas import relation, relations

ADDER = [("dec", 0, 1, 2), ("inc", 1, 0), ("stop",)]
# All kinds of lines, several of each, with lines that go to themselves, two ends, and a third register left alone.
MIXED = [("dec", 1, 2, 1), ("dec", 0, 4, 3), ("inc", 0, 0), ("stop",), ("dec", 0, 4, 5), ("stop",), ("inc", 1, 6)]
STOP = [("stop",)]
MACHINES = [(2, ADDER), (3, MIXED), (1, STOP), (4, STOP), (1, [("inc", 0, 1), ("inc", 0, 2), ("stop",)]),
            (1, [("dec", 0, 0, 1), ("stop",)]), (2, [("dec", 1, 0, 2), ("stop",), ("dec", 0, 0, 1), ("stop",)])]

ADDER_RELATIONS = """
    power ; Q ; 2 ; c
    Q = 2 * H
    power ; P ; Q ; T
    (Q - 1) * I = Q * P - 1
    under ; L0 ; I
    under ; L1 ; I - L0
    under ; L2 ; I - L0 - L1
    L0 + L1 + L2 = I
    under ; 1 ; L0
    L2 = P
    under ; E0 ; L0
    L0 = E0 + N0
    under ; Q * E0 ; L1
    under ; Q * N0 ; L2
    under ; R0 ; (Q - 1) * (I - N0)
    under ; Q * L1 ; L0
    under ; X0 ; H - 1
    under ; R0 ; (H - 1) * I
    under ; W0 ; (H - 1) * I
    R0 = W0 + E0
    R0 + Q * P * Y0 = X0 + Q * (R0 - E0)
    under ; X1 ; H - 1
    under ; R1 ; (H - 1) * I
    under ; W1 ; (H - 1) * I
    R1 = W1
    R1 + Q * P * Y1 = X1 + Q * (R1 + L1)
"""
STOP_RELATIONS = """
    power ; Q ; 2 ; c
    Q = 2 * H
    power ; P ; Q ; T
    (Q - 1) * I = Q * P - 1
    under ; L0 ; I
    L0 = I
    under ; 1 ; L0
    L0 = P
    under ; X0 ; H - 1
    under ; R0 ; (H - 1) * I
    under ; W0 ; (H - 1) * I
    R0 = W0
    R0 + Q * P * Y0 = X0 + Q * R0
"""


def joined_by(words, empty="0"):
    return " + ".join(words) or empty


def wanted_relations(registers, lines):
    """Return the relations of [3.4], built point by point for any machine."""
    found = relations("power ; Q ; 2 ; c\nQ = 2 * H\npower ; P ; Q ; T\n(Q - 1) * I = Q * P - 1")
    found = list(found)
    size = range(len(lines))
    for at in size:
        found.append(relation(f"under ; L{at} ; " + " - ".join(["I"] + [f"L{other}" for other in range(at)])))
    ends = joined_by([f"L{at}" for at in size if lines[at] == ("stop",)])
    found += [relation(joined_by([f"L{at}" for at in size]) + " = I"), relation("under ; 1 ; L0"),
              relation(ends + " = P")]
    for at, line in enumerate(lines):
        if line[0] == "inc":
            found.append(relation(f"under ; Q * L{at} ; L{line[2]}"))
        if line[0] == "dec":
            _, place, goal, other = line
            found += relations(f"""under ; E{at} ; L{at}
                                   L{at} = E{at} + N{at}
                                   under ; Q * E{at} ; L{goal}
                                   under ; Q * N{at} ; L{other}
                                   under ; R{place} ; (Q - 1) * (I - N{at})""")
    for i in range(registers):
        ups = joined_by([f"L{at}" for at in size if lines[at][:2] == ("inc", i)])
        downs = joined_by([f"E{at}" for at in size if lines[at][:2] == ("dec", i)])
        found += relations(f"""under ; X{i} ; H - 1
                               under ; R{i} ; (H - 1) * I
                               under ; W{i} ; (H - 1) * I
                               R{i} = W{i} + ({downs})
                               R{i} + Q * P * Y{i} = X{i} + Q * (R{i} + ({ups}) - ({downs}))""")
    return tuple(found)


def wanted_values(lines, run, c):
    """Return the values of [3.3], each as a sum of powers of the base."""
    base = 2 ** c
    power = [base ** time for time in range(len(run))]
    values = {"c": c, "T": len(run) - 1, "Q": base, "H": base // 2, "P": power[-1], "I": sum(power)}
    for i in range(len(run[0][1])):
        values[f"X{i}"], values[f"Y{i}"] = run[0][1][i], run[-1][1][i]
        values[f"R{i}"] = sum(power[time] * held[i] for time, (_, held) in enumerate(run))
        falls = [time for time, (at, held) in enumerate(run) if lines[at][:2] == ("dec", i) and held[i] > 0]
        values[f"W{i}"] = values[f"R{i}"] - sum(power[time] for time in falls)
    for number, line in enumerate(lines):
        times = [time for time, (at, _) in enumerate(run) if at == number]
        values[f"L{number}"] = sum(power[time] for time in times)
        if line[0] == "dec":
            more = [time for time in times if run[time][1][line[1]] > 0]
            values[f"E{number}"] = sum(power[time] for time in more)
            values[f"N{number}"] = sum(power[time] for time in times if time not in more)
    return values


def some_runs():
    """Yield a machine, its lines, and one of its runs that stop."""
    for registers, lines in MACHINES:
        machine = Machine(registers, lines)
        for inputs in itertools.islice(itertools.product((0, 1, 3), repeat=registers), 12):
            yield machine, lines, machine.run(inputs, 99)


class History(unittest.TestCase):
    def test_the_unknowns_of_the_example(self):
        self.assertEqual(history(Machine(2, ADDER)).unknowns, tuple(
            "c T H Q P I X0 Y0 R0 W0 X1 Y1 R1 W1 L0 E0 N0 L1 L2".split()))

    def test_the_relations_of_the_example(self):
        self.assertEqual(history(Machine(2, ADDER)).relations, relations(ADDER_RELATIONS))

    def test_a_machine_that_stops_at_once(self):
        system = history(Machine(1, STOP))
        self.assertIsInstance(system, System)
        self.assertEqual(system.unknowns, tuple("c T H Q P I X0 Y0 R0 W0 L0".split()))
        self.assertEqual(system.relations, relations(STOP_RELATIONS))

    def test_the_unknowns_of_other_machines(self):
        self.assertEqual(history(Machine(3, MIXED)).unknowns, tuple(
            "c T H Q P I X0 Y0 R0 W0 X1 Y1 R1 W1 X2 Y2 R2 W2 L0 E0 N0 L1 E1 N1 L2 L3 L4 E4 N4 L5 L6".split()))
        lines = [("dec", 0, 0, 0)] * 11 + [("stop",)]
        self.assertEqual(history(Machine(1, lines)).unknowns[-4:], ("L10", "E10", "N10", "L11"))

    def test_the_relations_of_other_machines(self):
        lines = [("inc", 3, 11), ("dec", 3, 5, 5), ("stop",)] * 4
        for registers, table in MACHINES + [(4, lines)]:
            system = history(Machine(registers, table))
            wanted = wanted_relations(registers, table)
            self.assertEqual(len(system.relations), len(wanted))
            for index, one in enumerate(wanted):
                self.assertEqual(system.relations[index], one, index)

    def test_the_machine_stays(self):
        machine = Machine(3, MIXED)
        history(machine).relations[0][1].clear()
        asked(machine, (1, 2, 3), (0, 0, 0))
        self.assertEqual(machine.table(), MIXED)
        self.assertEqual(history(machine).relations, wanted_relations(3, MIXED))


class Solution(unittest.TestCase):
    def test_the_example(self):
        machine = Machine(2, ADDER)
        values = solution(machine, machine.run((1, 1), 9), 3)
        self.assertEqual(values, {
            "c": 3, "T": 3, "H": 4, "Q": 8, "P": 512, "I": 585, "X0": 1, "Y0": 0, "R0": 1, "W0": 0, "X1": 1, "Y1": 2,
            "R1": 1161, "W1": 1161, "L0": 65, "E0": 1, "N0": 64, "L1": 8, "L2": 512})

    def test_the_values_and_that_they_solve(self):
        for machine, lines, run in some_runs():
            for more in (0, 1, 5):
                c = least_bits(run) + more
                values = solution(machine, run, c)
                self.assertEqual(values, wanted_values(lines, run, c))
                self.assertEqual(check(history(machine), values), (True, 0))

    def test_a_machine_that_stops_at_once(self):
        machine = Machine(1, STOP)
        values = solution(machine, [(0, (0,))], 1)
        self.assertEqual(values.pop("Q"), 2)
        self.assertEqual(values, {"c": 1, "T": 0, "H": 1, "P": 1, "I": 1, "X0": 0, "Y0": 0, "R0": 0, "W0": 0, "L0": 1})

    def test_a_long_run(self):
        machine = Machine(2, ADDER)
        run = machine.run((150, 7), 999)
        values = solution(machine, run, 9)
        self.assertEqual(values, wanted_values(ADDER, run, 9))
        self.assertEqual(run_of(machine, values), run)

    def test_great_numbers(self):
        machine = Machine(4, STOP)
        run = [(0, (10 ** 40, 0, 1, 2 ** 200))]
        self.assertEqual(least_bits(run), 202)
        values = solution(machine, run, 202)
        self.assertEqual(values, wanted_values(STOP, run, 202))
        self.assertEqual(run_of(machine, values), run)

    def test_different_runs_and_bases_have_different_values(self):
        machine = Machine(3, MIXED)
        seen = []
        for inputs in itertools.product(range(2), repeat=3):
            run = machine.run(inputs, 99)
            for c in (3, 4, 5):
                values = solution(machine, run, c)
                self.assertNotIn(values, seen)
                seen.append(values)

    def test_too_few_bits(self):
        for machine, _, run in some_runs():
            for c in (least_bits(run) - 1, 0, -1, -10 ** 30):
                with self.assertRaises(TooFew):
                    solution(machine, run, c)

    def test_the_greatest_number_may_stand_anywhere(self):
        machine = Machine(1, [("inc", 0, 1), ("dec", 0, 2, 2), ("stop",)])
        run = machine.run((3,), 9)
        self.assertEqual(least_bits(run), 4)
        with self.assertRaises(TooFew):
            solution(machine, run, 3)
        self.assertEqual(run_of(machine, solution(machine, run, 4)), run)

    def test_values_that_are_no_runs(self):
        machine = Machine(2, ADDER)
        run = machine.run((1, 1), 9)
        for wrong in ([], run[:-1], run[1:], run + run[-1:], tuple(run), None, 5, [(0, (1, 1))], [(2, (0, 0))],
                      run[:1] + [(1, (False, 1))] + run[2:], run[:1] + [(1, (0, 2))] + run[2:], [(0, (0,)), (2, (0,))]):
            with self.assertRaises(BadRun, msg=repr(wrong)):
                solution(machine, wrong, 9)

    def test_no_run_comes_before_too_few_bits(self):
        machine = Machine(2, ADDER)
        for c in (-1, 0, 1, 2):
            with self.assertRaises(BadRun):
                solution(machine, machine.run((1, 1), 2), c)
            with self.assertRaises(TooFew):
                solution(machine, machine.run((1, 1), 9), c)

    def test_nothing_changes(self):
        machine = Machine(2, ADDER)
        run = machine.run((1, 1), 9)
        kept = copy.deepcopy(run)
        solution(machine, run, 3).clear()
        least_bits(run)
        self.assertEqual(run, kept)
        self.assertEqual(machine.table(), ADDER)
        self.assertEqual(solution(machine, run, 3)["R1"], 1161)


class LeastBits(unittest.TestCase):
    def test_least_bits(self):
        for number in list(range(70)) + [10 ** 30, 2 ** 100 - 1, 2 ** 100]:
            least = next(c for c in range(1, 200) if number < 2 ** (c - 1))
            self.assertEqual(least_bits([(0, (number,))]), least)
            self.assertEqual(least_bits([(0, (0, 0)), (1, (0, number)), (2, (0, 0))]), least)

    def test_all_times_and_registers_count(self):
        self.assertEqual(least_bits([(0, (1, 2)), (0, (0, 0))]), 3)
        self.assertEqual(least_bits([(0, (0, 0)), (0, (4, 3))]), 4)
        self.assertEqual(least_bits([(0, (0, 0, 0, 0))]), 1)


class RunOf(unittest.TestCase):
    def test_runs_come_back(self):
        for machine, _, run in some_runs():
            for more in (0, 3):
                self.assertEqual(run_of(machine, solution(machine, run, least_bits(run) + more)), run)

    def test_changed_values(self):
        for machine, _, run in some_runs():
            values = solution(machine, run, least_bits(run))
            for name in values:
                for change in (-values[name], -1, 1, values["Q"], values["P"], 2 * values[name]):
                    changed = dict(values, **{name: values[name] + change})
                    if changed == values or changed[name] < 0:
                        continue
                    right, index = check(history(machine), changed)
                    self.assertFalse(right, (name, change))
                    with self.assertRaises(NotSolution) as caught:
                        run_of(machine, changed)
                    self.assertEqual(caught.exception.index, index)

    def test_the_index(self):
        machine = Machine(2, ADDER)
        values = solution(machine, machine.run((1, 1), 9), 3)
        for name, change, index in (("c", 1, 0), ("H", 1, 1), ("T", -1, 2), ("I", 1, 3), ("L0", 2, 4), ("L2", 64, 6),
                                    ("E0", 64, 11), ("X0", 4, 16), ("X0", 1, 20), ("W1", 1, 24), ("Y1", 1, 25)):
            with self.assertRaises(NotSolution) as caught:
                run_of(machine, dict(values, **{name: values[name] + change}))
            self.assertEqual(caught.exception.index, index, name)

    def test_no_values(self):
        machine = Machine(2, ADDER)
        values = solution(machine, machine.run((1, 1), 9), 3)
        wrong = [{}, None, [], list(values.items()), dict(values, Z=0), dict(values, c=True), dict(values, E0=True),
                 dict(values, T=-1), dict(values, T="3"), dict(values, T=None), dict(values, H=4.0)]
        for name in values:
            wrong.append({other: values[other] for other in values if other != name})
        for one in wrong:
            with self.assertRaises(BadValues, msg=repr(one)):
                run_of(machine, one)

    def test_no_values_come_before_no_solution(self):
        machine = Machine(2, ADDER)
        values = solution(machine, machine.run((1, 1), 9), 3)
        with self.assertRaises(BadValues):
            run_of(machine, dict(values, c=9, L2=-1))

    def test_values_of_another_machine(self):
        machine, other = Machine(2, ADDER), Machine(2, [("dec", 0, 1, 2), ("inc", 0, 0), ("stop",)])
        with self.assertRaises(NotSolution):
            run_of(other, solution(machine, machine.run((1, 1), 9), 3))

    def test_nothing_changes(self):
        machine = Machine(2, ADDER)
        values = solution(machine, machine.run((1, 1), 9), 3)
        kept = dict(values)
        run_of(machine, values).clear()
        self.assertEqual(values, kept)
        self.assertEqual(len(run_of(machine, values)), 4)


class AllSolutions(unittest.TestCase):
    """3.5: there are no other solutions, as far as one can look."""

    def test_a_machine_that_stops_at_once(self):
        machine, found = Machine(1, STOP), []
        system = history(machine)
        for c, steps in itertools.product(range(4), range(2)):
            base = 2 ** c
            power = base ** steps
            every = (base * power - 1) // (base - 1) if base > 1 else 0
            fixed = {"c": c, "T": steps, "Q": base, "H": base // 2, "P": power, "I": every}
            most = base + 1 if steps == 0 else 3
            for first, last, held, left in itertools.product(range(most), repeat=4):
                for visits in {0, 1, power, every}:
                    values = dict(fixed, X0=first, Y0=last, R0=held, W0=left, L0=visits)
                    if check(system, values)[0]:
                        found.append(values)
        wanted = [solution(machine, [(0, (number,))], c) for c in range(1, 4) for number in range(2 ** (c - 1))]
        self.assertEqual(len(found), len(wanted))
        for values in wanted:
            self.assertIn(values, found)


class Asked(unittest.TestCase):
    def test_the_relations(self):
        machine = Machine(2, ADDER)
        system = history(machine)
        one = asked(machine, (1, 0), None)
        self.assertIsInstance(one, System)
        self.assertEqual(one.unknowns, system.unknowns)
        self.assertEqual(one.relations, system.relations + relations("X0 = 1\nX1 = 0"))
        other = asked(machine, (7, 10 ** 40), (0, 3))
        self.assertEqual(other.unknowns, system.unknowns)
        self.assertEqual(other.relations, system.relations + relations(f"X0 = 7\nX1 = {10 ** 40}\nY0 = 0\nY1 = 3"))

    def test_all_registers(self):
        for registers in range(1, 5):
            machine = Machine(registers, STOP)
            more = asked(machine, tuple(range(registers)), tuple(range(5, 5 + registers))).relations
            more = more[len(history(machine).relations):]
            self.assertEqual(more, tuple(
                [relation(f"X{i} = {i}") for i in range(registers)] +
                [relation(f"Y{i} = {i + 5}") for i in range(registers)]))

    def test_right_inputs_and_answers(self):
        for machine, _, run in some_runs():
            inputs, answers = run[0][1], run[-1][1]
            for c in range(least_bits(run), least_bits(run) + 3):
                values = solution(machine, run, c)
                self.assertEqual(check(asked(machine, inputs, None), values), (True, 0))
                self.assertEqual(check(asked(machine, inputs, answers), values), (True, 0))

    def test_other_inputs_and_answers(self):
        for machine, _, run in some_runs():
            inputs, answers = run[0][1], run[-1][1]
            values = solution(machine, run, least_bits(run))
            count = len(history(machine).relations)
            for i in range(len(inputs)):
                other = inputs[:i] + (inputs[i] + 1,) + inputs[i + 1:]
                self.assertEqual(check(asked(machine, other, None), values), (False, count + i))
                self.assertEqual(check(asked(machine, other, answers), values), (False, count + i))
                other = answers[:i] + (answers[i] + 1,) + answers[i + 1:]
                self.assertEqual(check(asked(machine, inputs, other), values), (False, count + len(inputs) + i))

    def test_tuples_that_are_not_right(self):
        machine = Machine(2, ADDER)
        for wrong in ((), (1,), (1, 2, 3), (1, -1), (-1, 1), (True, 1), (1, False), [1, 1], "11", 11, {0: 1, 1: 1},
                      (1, None), ("1", 1), (1.0, 1), ((1,), 1)):
            with self.assertRaises(BadValues, msg=repr(wrong)):
                asked(machine, wrong, None)
            with self.assertRaises(BadValues, msg=repr(wrong)):
                asked(machine, wrong, (1, 1))
            with self.assertRaises(BadValues, msg=repr(wrong)):
                asked(machine, (1, 1), wrong)
        with self.assertRaises(BadValues):
            asked(machine, None, None)


class Digits(unittest.TestCase):
    def test_digits_of(self):
        self.assertEqual(digits_of(1161, 3, 4), [1, 1, 2, 2])
        self.assertEqual(digits_of(0, 1, 3), [0, 0, 0])
        self.assertEqual(digits_of(13, 1, 4), [1, 0, 1, 1])
        self.assertIsInstance(digits_of(5, 2, 2), list)

    def test_the_lowest_digits_alone(self):
        for count in range(9):
            self.assertEqual(digits_of(0o7654321, 3, count), [1, 2, 3, 4, 5, 6, 7, 0][:count])

    def test_more_digits_than_there_are(self):
        self.assertEqual(digits_of(5, 1, 7), [1, 0, 1, 0, 0, 0, 0])
        self.assertEqual(digits_of(2 ** 64, 64, 4), [0, 1, 0, 0])

    def test_number_of(self):
        self.assertEqual(number_of([1, 1, 2, 2], 3), 1161)
        self.assertEqual(number_of([], 5), 0)
        self.assertEqual(number_of([0, 0, 1], 100), 2 ** 200)
        self.assertEqual(number_of([9], 4), 9)

    def test_they_give_each_other_back(self):
        for c, count in itertools.product((1, 2, 3, 7, 64, 301), range(40)):
            digits = [(at * at * 5 + 3 * c + count) * 7 ** 40 % 2 ** c for at in range(count)]
            number = number_of(digits, c)
            self.assertEqual(number, sum(digit * 2 ** (c * at) for at, digit in enumerate(digits)))
            self.assertEqual(digits_of(number, c, count), digits)
            self.assertEqual(digits_of(number, c, count + 3), digits + [0, 0, 0])

    def test_many_digits(self):
        digits = [at % 4 for at in range(50000)]
        number = number_of(digits, 2)
        self.assertEqual(number.bit_length(), 100000)
        self.assertEqual(digits_of(number, 2, 50000), digits)

    def test_the_digits_stay(self):
        for digits in ([], [3], [1, 2, 3], [1, 2]):
            kept = list(digits)
            number_of(digits, 2)
            self.assertEqual(digits, kept)


if __name__ == "__main__":
    unittest.main()
