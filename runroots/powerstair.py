"""The stair from "power" relations to rows: a power is the rest of a pair."""

from runroots.pairs import pair
from runroots.poly import constant, minus, plus, scaled, sum_of, times
from runroots.relations import equal, one_apart, row_member, zero_test
from runroots.system import lowered, values_of, with_witnesses, witness_names

MARKS = "stvuhwbcqr"


class PowerStair:
    """A stair from a system to one without "power" relations."""

    def __init__(self, system):
        self.upper = system
        self._names = witness_names(system, "power", "p", MARKS)
        self.lower = lowered(system, self._names, _relations)

    def down(self, values):
        """Return a solution of the upper system with the values of the witnesses."""
        return with_witnesses(self.upper, self._names, _numbers, values)

    def up(self, values):
        """Return the values of the upper system's unknowns, unchecked."""
        return values_of(self.upper, values)


def _relations(relation, witnesses):
    _, z, x, y = relation
    s, t, v, u, h, w, b, c, q, r = witnesses
    one = constant(1)
    g = plus(x, s)
    base = plus(w, g)
    k = _divisor(g, w)
    return zero_test(x, s, t) + zero_test(y, v, u) + [
        ("row", w, plus(y, one), plus(g, one)),
        ("row", c, y, base),
        one_apart(b, c, base),
        equal(minus(minus(b, times(c, w)), h), times(k, q)),
        equal(minus(minus(k, one), h), r),
        ("zero", sum_of([z, scaled(h, -1), times(s, h), scaled(times(s, v), -1)])),
    ]


def _divisor(g, w):
    """Return the polynomial 2 * w * g + g * g - 1, whose value is greater than the power."""
    return minus(plus(scaled(times(w, g), 2), times(g, g)), constant(1))


def _numbers(z, x, y):
    """Return the values of the witnesses for a power z of x to the exponent y."""
    s, v = int(x == 0), int(y == 0)
    g = x + s
    # The power of x + s is z itself, but for x = 0, where it is a power of 1.
    h = 1 if x == 0 else z
    w = row_member(y + 1, g + 1)
    b, c = pair(y, w + g)
    k = 2 * w * g + g * g - 1
    return [s, x + s - 1, v, y + v - 1, h, w, b, c, (b - c * w - h) // k, k - 1 - h]
