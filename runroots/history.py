"""The history of a counter machine as a system: its solutions are the runs that stop."""

from runroots.counters import STOP, is_run, is_tuple_of
from runroots.errors import BadRun, BadValues, TooFew
from runroots.poly import constant, minus, plus, sum_of, times, unknown
from runroots.relations import equal
from runroots.system import System, demand_solution


def history(machine):
    """Return the system whose solutions are the runs of the machine that stop."""
    relations = _base_relations() + _time_relations(machine)
    for number, line in enumerate(machine.table()):
        relations.extend(_line_relations(number, line))
    for place in range(machine.registers):
        relations.extend(_place_relations(machine, place))
    return System(_unknowns(machine), relations)


def _unknowns(machine):
    names = ["c", "T", "H", "Q", "P", "I"]
    for place in range(machine.registers):
        names.extend([f"{letter}{place}" for letter in "XYRW"])
    for number, line in enumerate(machine.table()):
        letters = "LEN" if line[0] == "dec" else "L"
        names.extend([f"{letter}{number}" for letter in letters])
    return names


def _numbered(letter, number):
    return unknown(f"{letter}{number}")


def _base_relations():
    base, last, every = unknown("Q"), unknown("P"), unknown("I")
    one, two = constant(1), constant(2)
    return [
        ("power", base, two, unknown("c")),
        equal(base, times(two, unknown("H"))),
        ("power", last, base, unknown("T")),
        equal(times(minus(base, one), every), minus(times(base, last), one)),
    ]


def _time_relations(machine):
    """Return the relations that give each time to one line, the first to line 0, the last to a stop."""
    every = unknown("I")
    visits = [_numbered("L", number) for number in range(machine.size)]
    relations = [
        ("under", visit, minus(every, sum_of(visits[:number]))) for number, visit in enumerate(visits)
    ]
    ends = [visits[number] for number, line in enumerate(machine.table()) if line == STOP]
    return relations + [
        equal(sum_of(visits), every),
        ("under", constant(1), visits[0]),
        equal(sum_of(ends), unknown("P")),
    ]


def _line_relations(number, line):
    """Return the relations that say which line is the next one."""
    base, visit = unknown("Q"), _numbered("L", number)
    if line == STOP:
        return []
    if line[0] == "inc":
        return [("under", times(base, visit), _numbered("L", line[2]))]
    more, none = _numbered("E", number), _numbered("N", number)
    held = _numbered("R", line[1])
    return [
        ("under", more, visit),
        equal(visit, plus(more, none)),
        ("under", times(base, more), _numbered("L", line[2])),
        ("under", times(base, none), _numbered("L", line[3])),
        ("under", held, times(minus(base, constant(1)), minus(unknown("I"), none))),
    ]


def _place_relations(machine, place):
    """Return the relations that say what one of the registers holds from time to time."""
    first, last, held, left = [_numbered(letter, place) for letter in "XYRW"]
    base, top = unknown("Q"), minus(unknown("H"), constant(1))
    tops = times(top, unknown("I"))
    ups = sum_of([_numbered("L", number) for number in _lines_with(machine, "inc", place)])
    downs = sum_of([_numbered("E", number) for number in _lines_with(machine, "dec", place)])
    after = minus(plus(held, ups), downs)
    return [
        ("under", first, top),
        ("under", held, tops),
        ("under", left, tops),
        equal(held, plus(left, downs)),
        equal(plus(held, times(times(base, unknown("P")), last)), plus(first, times(base, after))),
    ]


def _lines_with(machine, word, place):
    """Return the numbers of the lines with this word for one of the registers."""
    return [number for number, line in enumerate(machine.table()) if line[0] == word and line[1] == place]


def asked(machine, inputs, answers):
    """Return the history of the machine from these inputs, and to these answers unless they are None."""
    relations = _given("X", inputs, machine.registers)
    if answers is not None:
        relations = relations + _given("Y", answers, machine.registers)
    system = history(machine)
    return System(list(system.unknowns), list(system.relations) + relations)


def _given(letter, numbers, count):
    if not is_tuple_of(numbers, count):
        raise BadValues(f"there are not {count} integers from 0 on for {letter}")
    return [equal(_numbered(letter, place), constant(number)) for place, number in enumerate(numbers)]


def least_bits(run):
    """Return the least c that a run fits."""
    return 1 + max([number.bit_length() for _, registers in run for number in registers])


def solution(machine, run, c):
    """Return the values of the machine's history for a run and the number of bits of its base."""
    if not is_run(machine, run):
        raise BadRun("this is no run of the machine that stops")
    if c < least_bits(run):
        raise TooFew("the registers need more bits")
    steps = len(run) - 1
    values = {"c": c, "T": steps, "H": 1 << (c - 1), "Q": 1 << c, "P": 1 << (c * steps)}
    values["I"] = number_of([1] * len(run), c)
    for place in range(machine.registers):
        held = [registers[place] for _, registers in run]
        left = [_left(machine, configuration, place) for configuration in run]
        values[f"X{place}"] = held[0]
        values[f"Y{place}"] = held[-1]
        values[f"R{place}"] = number_of(held, c)
        values[f"W{place}"] = number_of(left, c)
    for number, line in enumerate(machine.table()):
        values[f"L{number}"] = _time_number([at == number for at, _ in run], c)
        if line[0] == "dec":
            some = [at == number and registers[line[1]] > 0 for at, registers in run]
            values[f"E{number}"] = _time_number(some, c)
            values[f"N{number}"] = values[f"L{number}"] - values[f"E{number}"]
    return values


def _left(machine, configuration, place):
    """Return what one of the registers holds, without what it is about to lose."""
    number, registers = configuration
    line = machine.line(number)
    falls = line[0] == "dec" and line[1] == place and registers[place] > 0
    return registers[place] - 1 if falls else registers[place]


def _time_number(marks, c):
    return number_of([1 if mark else 0 for mark in marks], c)


def run_of(machine, values):
    """Return the run whose values these are, or raise what tells that they are none's."""
    demand_solution(history(machine), values)
    c, count = values["c"], values["T"] + 1
    columns = [digits_of(values[f"R{place}"], c, count) for place in range(machine.registers)]
    lines = [0] * count
    for number in range(machine.size):
        for time, mark in enumerate(digits_of(values[f"L{number}"], c, count)):
            if mark == 1:
                lines[time] = number
    return [(lines[time], tuple([column[time] for column in columns])) for time in range(count)]


def digits_of(number, c, count):
    """Return the lowest digits of a number from 0 on in the base 2 ** c, the lowest one first."""
    width = 1
    while width < count:
        width = 2 * width
    parts = [number & _ones(c * width)]
    # Halving all parts at once keeps the work small where there are many digits.
    while width > 1:
        width = width // 2
        low, shift = _ones(c * width), c * width
        parts = [half for part in parts for half in (part & low, part >> shift)]
    return parts[:count]


def _ones(length):
    return (1 << length) - 1


def number_of(digits, c):
    """Return the number with these digits in the base 2 ** c, the lowest one first."""
    parts, shift = list(digits), c
    while len(parts) > 1:
        parts.append(0)
        # With one 0 more, an odd number of parts has a partner for each; of an even one it is left over.
        parts = [low + (high << shift) for low, high in zip(parts[::2], parts[1::2])]
        shift = 2 * shift
    return parts[0] if parts else 0
