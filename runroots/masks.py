"""The stair from "under" relations to powers: a mask is a binomial coefficient that is odd."""

from runroots.binomial import power_digits
from runroots.history import number_of
from runroots.poly import constant, plus, scaled, sum_of, times, value_of
from runroots.relations import equal
from runroots.system import demand_values, lowered, values_of, with_witnesses, witness_names

MARKS = "UVWMEDFG"


class MaskStair:
    """A stair from a system to one without "under" relations."""

    def __init__(self, upper):
        self.upper = upper
        self._names = witness_names(upper, "under", "m", MARKS)
        self.lower = lowered(upper, self._names, _relations)

    def down(self, values):
        """Return a solution of the upper system with the values of the witnesses."""
        return with_witnesses(self.upper, self._names, _numbers, values)

    def up(self, values):
        """Return the values without those of the witnesses."""
        demand_values(self.lower, values)
        return values_of(self.upper, values)


def _relations(relation, witnesses):
    """Return what stands for one relation: the digit of a power at the position a is odd."""
    _, a, b = relation
    base, place, power, above, half, below, room, space = witnesses
    one = constant(1)
    digit = plus(scaled(half, 2), one)
    return [
        ("power", base, constant(2), plus(b, one)),
        ("power", power, plus(base, one), b),
        ("power", place, base, a),
        equal(power, sum_of([times(times(above, base), place), times(digit, place), below])),
        equal(sum_of([below, room, one]), place),
        equal(sum_of([digit, one, space]), base),
    ]


def _numbers(a, b):
    """Return the values of the witnesses for a number a that is under b."""
    digits = power_digits(b)
    length = b + 1
    base, place = 1 << length, 1 << (length * a)
    # The digits are known, so the great power is put together from them, without long products.
    power = number_of(digits, length)
    above = number_of(digits[a + 1:], length)
    below = number_of(digits[:a], length)
    half = digits[a] // 2
    return [base, place, power, above, half, below, place - 1 - below, base - 2 - 2 * half]


def mask_sizes(system, values):
    """Return the numbers of binary digits of the witnesses W for a solution of the upper system."""
    sizes = []
    for relation in system.relations:
        if relation[0] == "under":
            b = value_of(relation[2], values)
            sizes.append(b * (b + 1) + 1)
    return sizes
