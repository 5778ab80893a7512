"""The whole way: from the text of a machine to a tower, and from runs to solutions and back."""

from runroots.history import asked, run_of, solution
from runroots.listing import machine_of
from runroots.system import demand_solution
from runroots.tower import Tower


def equations(text, inputs, answers, names):
    """Return the tower of stairs with these names, of the question to the machine with this text."""
    return Tower(asked(machine_of(text), inputs, answers), names)


def carried(machine, run, c, tower):
    """Return the solution of the tower's lower system that belongs to a run and a number of bits."""
    return tower.down(solution(machine, run, c))


def read(machine, tower, values):
    """Return the run that is meant by a solution of the tower's lower system, whoever found it."""
    demand_solution(tower.lower, values)
    return run_of(machine, tower.up(values))


def least_cost(values):
    """Return the number of binary digits of the greatest value."""
    return max(values.values(), default=0).bit_length()
