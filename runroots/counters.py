"""Counter machines and their runs."""

from runroots.errors import BadMachine
from runroots.integers import is_natural, is_number

MOST_REGISTERS = 4
MOST_LINES = 12
STOP = ("stop",)
# The words of the lines, each with the number of items in its tuple.
LENGTHS = {"stop": 1, "inc": 3, "dec": 4}


class Machine:
    """A counter machine: a number of registers, and lines that count them up and down."""

    def __init__(self, registers, lines):
        _demand_machine(registers, lines)
        self.registers = registers
        self.size = len(lines)
        self._lines = tuple(lines)

    def line(self, number):
        """Return the line with this number."""
        if not is_natural(number) or number >= self.size:
            raise BadMachine("there is no line with this number")
        return self._lines[number]

    def table(self):
        """Return a new list of the lines."""
        return list(self._lines)

    def step(self, configuration):
        """Return the next configuration, or None if the machine has stopped."""
        number, registers = configuration
        line = self.line(number)
        if line == STOP:
            return None
        if line[0] == "inc":
            return (line[2], _changed(registers, line[1], 1))
        if registers[line[1]] > 0:
            return (line[2], _changed(registers, line[1], -1))
        return (line[3], tuple(registers))

    def run(self, inputs, most):
        """Return the configurations from the inputs on, up to a stop, but at most `most` + 1 of them."""
        configurations = []
        here = (0, tuple(inputs))
        while here is not None and len(configurations) <= most:
            configurations.append(here)
            here = self.step(here)
        return configurations


def _demand_machine(registers, lines):
    if not is_number(registers) or not 1 <= registers <= MOST_REGISTERS:
        raise BadMachine(f"the number of registers is not from 1 to {MOST_REGISTERS}")
    if not isinstance(lines, (list, tuple)) or not 1 <= len(lines) <= MOST_LINES:
        raise BadMachine(f"the lines are not 1 to {MOST_LINES}")
    for number, line in enumerate(lines):
        if not is_line(line, registers, len(lines)):
            raise BadMachine(f"line {number} is not of a form that there is")
    if STOP not in lines:
        raise BadMachine("no line is a stop")


def is_line(value, registers, size):
    """Return whether a value is a line of a machine with so many registers and lines."""
    if not isinstance(value, tuple) or not value or not isinstance(value[0], str):
        return False
    if LENGTHS.get(value[0]) != len(value):
        return False
    limits = (registers, size, size)
    return all([is_natural(number) and number < limit for number, limit in zip(value[1:], limits)])


def _changed(registers, place, difference):
    numbers = list(registers)
    numbers[place] = numbers[place] + difference
    return tuple(numbers)


def stops(machine, run):
    """Return whether the last configuration of a list of them has stopped."""
    return len(run) > 0 and machine.line(run[-1][0]) == STOP


def is_run(machine, value):
    """Return whether a value is a list of the configurations from line 0 on, step by step, up to a stop."""
    if not isinstance(value, list) or not value:
        return False
    # The kinds come first: True would pass for 1 when a step is compared.
    if not all([_is_configuration(machine, item) for item in value]):
        return False
    if value[0][0] != 0 or not stops(machine, value):
        return False
    return all([machine.step(before) == after for before, after in zip(value, value[1:])])


def _is_configuration(machine, value):
    if not isinstance(value, tuple) or len(value) != 2:
        return False
    number, registers = value
    return is_natural(number) and number < machine.size and is_tuple_of(registers, machine.registers)


def is_tuple_of(value, count):
    """Return whether a value is a tuple of so many integers from 0 on."""
    if not isinstance(value, tuple) or len(value) != count:
        return False
    return all([is_natural(item) for item in value])
