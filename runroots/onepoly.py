"""The stair to one equation, and equations between integers of any sign."""

from runroots.errors import BadSystem, BadValues
from runroots.foursquares import four_squares
from runroots.integers import is_number
from runroots.poly import constant, copied, is_name, names_in, sum_of, times, unknown
from runroots.system import System, demand_solution, demand_values, demand_zeros, has_zeros_alone, values_of

LETTERS = "abcd"


class OneStair:
    """A stair from a system of "zero" relations alone to the one equation that the sum of all squares is 0."""

    def __init__(self, upper):
        demand_zeros(upper)
        self.upper = upper
        squares = [times(relation[1], relation[1]) for relation in upper.relations]
        self.lower = System(list(upper.unknowns), [("zero", sum_of(squares))])

    def down(self, values):
        """Return a solution of the upper system as it is."""
        demand_solution(self.upper, values)
        return values_of(self.upper, values)

    def up(self, values):
        """Return the values as they are."""
        demand_values(self.lower, values)
        return values_of(self.upper, values)


def only(system):
    """Return the polynomial of a system that has just one relation, a "zero"."""
    if len(system.relations) != 1 or not has_zeros_alone(system):
        raise BadSystem("this is not one equation alone")
    return copied(system.relations[0][1])


def with_signs(polynomial):
    """Return the polynomial with a sum of four squares in the place of each name."""
    sums = {name: _sum_of_squares(name) for name in names_in(polynomial)}
    parts = []
    for monomial, number in polynomial.items():
        part = constant(number)
        for name in monomial:
            part = times(part, sums[name])
        parts.append(part)
    return sum_of(parts)


def _sum_of_squares(name):
    further = [name + letter for letter in LETTERS]
    if not is_name(further[0]):
        raise BadSystem(f"the name {name} has no room for another letter")
    return sum_of([times(unknown(one), unknown(one)) for one in further])


def signed_values(values):
    """Return the values of the names with a letter more, whose squares have the values from 0 on as their sums."""
    found = {}
    for name, value in values.items():
        for letter, number in zip(LETTERS, four_squares(value)):
            found[name + letter] = number
    return found


def unsigned_values(values):
    """Return the sums of the squares of the values, integers of any sign, of four names each."""
    found = {}
    for name, number in values.items():
        if not _has_letter(name) or not is_number(number):
            raise BadValues("a name does not end in one of four letters, or its value is no integer")
        found[name[:-1]] = found.get(name[:-1], 0) + number * number
    # Each name has one of the four letters, so four for each sum are all of them.
    if len(values) != len(LETTERS) * len(found):
        raise BadValues("one of four names is missing")
    return found


def _has_letter(name):
    return isinstance(name, str) and is_name(name[:-1]) and name[-1] in LETTERS
