"""2.1 to 2.4 and 2.6: counter machines, their steps and their runs."""

import copy
import itertools
import unittest

from runroots.counters import Machine, is_run, stops
from runroots.errors import BadMachine

ADDER = [("dec", 0, 1, 2), ("inc", 1, 0), ("stop",)]
RUN = [(0, (1, 1)), (1, (0, 1)), (0, (0, 2)), (2, (0, 2))]
# Moves twice what register 0 holds to register 3, with a stop in the middle and one that is never reached.
DOUBLER = [("dec", 0, 2, 1), ("stop",), ("inc", 3, 3), ("inc", 3, 0), ("stop",)]
ENDLESS = [("inc", 0, 0), ("stop",)]


def adder():
    return Machine(2, ADDER)


def slow_run(lines, inputs, most):
    """Return what a run is, worked out in another way: as a dict of what the registers hold."""
    held, at, seen = dict(enumerate(inputs)), 0, []
    while True:
        seen.append((at, tuple(held[place] for place in sorted(held))))
        word, *rest = lines[at]
        if word == "stop" or len(seen) > most:
            return seen
        if word == "inc":
            held[rest[0]] += 1
            at = rest[1]
        elif held[rest[0]]:
            held[rest[0]] -= 1
            at = rest[1]
        else:
            at = rest[2]


class Making(unittest.TestCase):
    def assert_bad(self, registers, lines):
        with self.assertRaises(BadMachine, msg=repr((registers, lines))):
            Machine(registers, lines)

    def test_the_attributes(self):
        machine = adder()
        self.assertEqual((machine.registers, machine.size), (2, 3))
        self.assertEqual([machine.line(number) for number in range(3)], ADDER)
        self.assertEqual(machine.table(), ADDER)
        self.assertIsInstance(machine.table(), list)

    def test_the_ends_of_the_ranges(self):
        for registers, size in itertools.product((1, 4), (1, 12)):
            lines = [("stop",)] * (size - 1) + [("stop",)]
            machine = Machine(registers, lines)
            self.assertEqual((machine.registers, machine.size, machine.table()), (registers, size, lines))
        lines = [("inc", 3, 11), ("dec", 3, 11, 0)] + [("dec", 0, 0, 11)] * 9 + [("stop",)]
        self.assertEqual(Machine(4, lines).table(), lines)
        self.assertEqual(Machine(1, [("stop",)]).line(0), ("stop",))

    def test_the_number_of_registers(self):
        for registers in (0, 5, -1, 10 ** 30, True, None, "2", 2.0, (2,)):
            self.assert_bad(registers, [("stop",)])

    def test_the_number_of_lines(self):
        self.assert_bad(1, [])
        self.assert_bad(1, [("stop",)] * 13)
        self.assert_bad(1, [("inc", 0, 12)] * 12 + [("stop",)])

    def test_no_stop(self):
        self.assert_bad(1, [("inc", 0, 0)])
        self.assert_bad(2, [("dec", 0, 1, 1), ("inc", 1, 0)])

    def test_lines_of_another_form(self):
        wrong = [None, 0, "stop", (), [], ["stop"], ["inc", 0, 0], ("stop", 0), ("stop", None), ("Stop",), ("",), (0,),
                 (None,), (("stop",),), ("inc",), ("inc", 0), ("inc", 0, 0, 0), ("dec", 0), ("dec", 0, 0),
                 ("dec", 0, 0, 0, 0), ("add", 0, 0), ("jump", 0), (["inc"], 0, 0), (0, "inc", 0), {"stop": 1}, True]
        for line in wrong:
            for lines in ([line, ("stop",)], [("stop",), line], [line]):
                self.assert_bad(2, lines)

    def test_numbers_out_of_range(self):
        for wrong in (-1, 2, 3, 10 ** 30, True, False, None, "0", 0.0, (0,)):
            for line in (("inc", wrong, 0), ("dec", wrong, 0, 0), ("inc", 0, wrong), ("dec", 0, wrong, 0),
                         ("dec", 0, 0, wrong)):
                self.assert_bad(2, [line, ("stop",)])
        self.assert_bad(1, [("inc", 1, 0), ("stop",)])
        self.assert_bad(4, [("inc", 4, 0), ("stop",)])
        self.assertEqual(Machine(4, [("inc", 3, 1), ("stop",)]).line(0), ("inc", 3, 1))

    def test_lines_that_there_are_not(self):
        for number in (3, -1, -3, 12, 10 ** 30, True, False, None, "0", 0.0):
            with self.assertRaises(BadMachine, msg=repr(number)):
                adder().line(number)

    def test_it_copies(self):
        lines = list(ADDER)
        machine = Machine(2, lines)
        lines[0] = ("stop",)
        lines.append(("stop",))
        self.assertEqual((machine.size, machine.table()), (3, ADDER))
        machine.table().clear()
        machine.table()[1] = ("stop",)
        self.assertEqual((machine.size, machine.table(), machine.line(1)), (3, ADDER, ("inc", 1, 0)))
        self.assertIsNot(machine.table(), machine.table())

    def test_it_changes_nothing(self):
        lines = list(ADDER)
        Machine(2, lines)
        self.assertEqual(lines, ADDER)


class Step(unittest.TestCase):
    def test_each_kind_of_line(self):
        machine = adder()
        self.assertEqual(machine.step((0, (1, 1))), (1, (0, 1)))
        self.assertEqual(machine.step((0, (0, 7))), (2, (0, 7)))
        self.assertEqual(machine.step((1, (0, 1))), (0, (0, 2)))
        self.assertIsNone(machine.step((2, (5, 5))))

    def test_great_numbers(self):
        self.assertEqual(adder().step((1, (0, 10 ** 50))), (0, (0, 10 ** 50 + 1)))
        self.assertEqual(adder().step((0, (10 ** 50, 3))), (1, (10 ** 50 - 1, 3)))

    def test_the_other_registers_stay(self):
        machine = Machine(4, [("inc", 2, 0), ("dec", 1, 1, 3), ("dec", 3, 0, 3), ("stop",)])
        self.assertEqual(machine.step((0, (5, 6, 7, 8))), (0, (5, 6, 8, 8)))
        self.assertEqual(machine.step((1, (5, 6, 7, 8))), (1, (5, 5, 7, 8)))
        self.assertEqual(machine.step((2, (5, 6, 7, 0))), (3, (5, 6, 7, 0)))

    def test_the_kinds(self):
        line, registers = adder().step((0, (1, 1)))
        self.assertIsInstance(adder().step((0, (1, 1))), tuple)
        self.assertIsInstance(registers, tuple)
        self.assertIs(type(line), int)


class Run(unittest.TestCase):
    def test_the_example(self):
        self.assertEqual(adder().run((1, 1), 9), RUN)
        self.assertIsInstance(adder().run((1, 1), 9), list)

    def test_cut_off(self):
        for most in range(12):
            self.assertEqual(adder().run((1, 1), most), RUN[:most + 1])
        for most in (0, 1, 50):
            self.assertEqual(len(Machine(1, ENDLESS).run((3,), most)), most + 1)
        self.assertEqual(Machine(1, ENDLESS).run((3,), 2), [(0, (3,)), (0, (4,)), (0, (5,))])

    def test_a_machine_that_stops_at_once(self):
        machine = Machine(3, [("stop",), ("inc", 0, 0)])
        for most in (0, 1, 100):
            self.assertEqual(machine.run((1, 2, 3), most), [(0, (1, 2, 3))])

    def test_against_another_way(self):
        for registers, lines in ((2, ADDER), (4, DOUBLER), (1, ENDLESS)):
            machine = Machine(registers, lines)
            for inputs in itertools.product(range(3), repeat=registers):
                for most in (0, 1, 4, 40):
                    self.assertEqual(machine.run(inputs, most), slow_run(lines, inputs, most))

    def test_the_result_is_new(self):
        machine = adder()
        machine.run((1, 1), 9).clear()
        self.assertEqual(machine.run((1, 1), 9), RUN)


class Stops(unittest.TestCase):
    def test_runs(self):
        for most in range(8):
            self.assertIs(stops(adder(), adder().run((1, 1), most)), most >= 3)
            self.assertIs(stops(Machine(1, ENDLESS), Machine(1, ENDLESS).run((0,), most)), False)

    def test_any_stop(self):
        machine = Machine(1, [("dec", 0, 1, 2), ("stop",), ("stop",)])
        self.assertIs(stops(machine, machine.run((0,), 5)), True)
        self.assertIs(stops(machine, machine.run((1,), 5)), True)
        self.assertIs(stops(machine, machine.run((1,), 0)), False)

    def test_the_last_configuration_alone_counts(self):
        self.assertIs(stops(adder(), [(2, (0, 0)), (0, (0, 0))]), False)
        self.assertIs(stops(adder(), [(0, (0, 0)), (2, (9, 9))]), True)
        self.assertIs(stops(adder(), []), False)


class IsRun(unittest.TestCase):
    def test_runs(self):
        for inputs in itertools.product(range(4), repeat=2):
            self.assertIs(is_run(adder(), adder().run(inputs, 99)), True)
        machine = Machine(4, DOUBLER)
        self.assertIs(is_run(machine, machine.run((3, 0, 2, 1), 99)), True)
        self.assertIs(is_run(Machine(1, [("stop",)]), [(0, (10 ** 40,))]), True)

    def test_runs_that_are_cut_off_or_go_on(self):
        for count in range(4):
            self.assertIs(is_run(adder(), RUN[:count]), False)
        # What is left from line 0 on is a run of its own.
        for first, right in ((1, False), (2, True), (3, False)):
            self.assertIs(is_run(adder(), RUN[first:]), right)
        self.assertIs(is_run(adder(), RUN + RUN[-1:]), False)
        self.assertIs(is_run(adder(), RUN + RUN), False)
        self.assertIs(is_run(adder(), []), False)

    def test_it_begins_in_line_0(self):
        self.assertIs(is_run(adder(), [(2, (0, 0))]), False)
        self.assertIs(is_run(adder(), [(1, (0, 0)), (0, (0, 1)), (2, (0, 1))]), False)

    def test_steps_that_are_not_right(self):
        for at, change in itertools.product(range(4), ((0, 0, 0), (1, 0, 0), (-1, 0, 0), (0, 1, 0), (0, 0, 1))):
            line, (first, second) = RUN[at]
            value = list(RUN)
            value[at] = (line + change[0], (first + change[1], second + change[2]))
            self.assertIs(is_run(adder(), value), value == RUN, value)
        for at in range(4):
            self.assertIs(is_run(adder(), RUN[:at] + RUN[at + 1:]), False)
            self.assertIs(is_run(adder(), RUN[:at + 1] + RUN[at:]), False)

    def test_values_of_other_kinds(self):
        for value in (None, 0, True, "run", (), {}, tuple(RUN), {0: RUN}, RUN[0], [RUN], [None], [()], [0], ["00"]):
            self.assertIs(is_run(adder(), value), False, repr(value))

    def test_configurations_that_are_none(self):
        machine = Machine(1, [("stop",)])
        self.assertIs(is_run(machine, [(0, (1,))]), True)
        for wrong in ((0, (True,)), (False, (1,)), (0, [1]), [0, (1,)], (0, 1), (0, (1, 1)), (0, ()), (0, (-1,)), (0,),
                      (0, (1,), 0), (0, ("1",)), (0, (1.0,)), (0.0, (1,)), ("0", (1,)), (None, (1,)), (1, (1,)),
                      (-1, (1,)), (10 ** 30, (1,))):
            self.assertIs(is_run(machine, [wrong]), False, repr(wrong))

    def test_true_in_a_run(self):
        for at in (0, 1):
            line, (first, second) = RUN[at]
            for wrong in ((bool(line), (first, second)), (line, (bool(first), second)), (line, (first, bool(second)))):
                self.assertEqual(RUN[at], wrong)
                self.assertIs(is_run(adder(), RUN[:at] + [wrong] + RUN[at + 1:]), False)

    def test_nothing_changes(self):
        value = copy.deepcopy(RUN)
        is_run(adder(), value)
        stops(adder(), value)
        self.assertEqual(value, RUN)


if __name__ == "__main__":
    unittest.main()
