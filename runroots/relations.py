"""Relations: tuples of a word and the polynomials that it speaks of."""

from runroots.integers import raised
from runroots.poly import constant, is_polynomial, minus, plus, times, value_of

# The words of the relations, each with the number of its polynomials.
KINDS = {"zero": 1, "under": 2, "power": 3, "row": 3}


def is_relation(value):
    """Return whether a value is a relation."""
    if not isinstance(value, tuple) or not value or not isinstance(value[0], str):
        return False
    if KINDS.get(value[0]) != len(value) - 1:
        return False
    for polynomial in value[1:]:
        if not is_polynomial(polynomial):
            return False
    return True


def equal(first, second):
    """Return the relation that two polynomials have the same value."""
    return ("zero", minus(first, second))


def one_apart(x, y, a):
    """Return the relation that (x, y) is a pair of a: its squares, that of y times a * a - 1, are one apart."""
    one = constant(1)
    return equal(minus(times(x, x), times(minus(times(a, a), one), times(y, y))), one)


def zero_test(polynomial, flag, rest):
    """Return the relations that make the flag 1 where the polynomial is 0, and 0 where it is from 1 on."""
    return [
        ("zero", times(polynomial, flag)),
        equal(times(flag, flag), flag),
        equal(minus(plus(polynomial, flag), constant(1)), rest),
    ]


def row_member(n, a):
    """Return the member number n, from 0 on, of the row of a."""
    if n == 0:
        return 0
    before, here = 0, 1
    # From the members m - 1 and m to those of 2 * m or 2 * m + 1: one step for each binary digit of n.
    for place in reversed(range(n.bit_length() - 1)):
        below = here * here - before * before
        twice = 2 * here * (a * here - before)
        if (n >> place) & 1:
            before, here = twice, 2 * a * twice - below
        else:
            before, here = below, twice
    return here


def holds(relation, values):
    """Return whether a relation holds for a dict from names to integers."""
    word = relation[0]
    numbers = [value_of(polynomial, values) for polynomial in relation[1:]]
    if word == "zero":
        return numbers[0] == 0
    if word == "under":
        return _holds_under(*numbers)
    if word == "power":
        return _holds_power(*numbers)
    return _holds_row(*numbers)


def _holds_under(a, b):
    return a >= 0 and b >= 0 and (a & b) == a


def _holds_power(z, x, y):
    if z < 0 or x < 0 or y < 0:
        return False
    if x < 2:
        return z == (1 if y == 0 else x)
    # The power has more than this many binary digits: a shorter z is refused without working it out.
    if z.bit_length() <= (x.bit_length() - 1) * y:
        return False
    return z == raised(x, y)


def _holds_row(y, n, a):
    if y < 0 or n < 0 or a < 2:
        return False
    # From n = 1 on the member is at least 2 * a - 1 to the power of n - 1, so a shorter y is none.
    if y.bit_length() <= ((2 * a - 1).bit_length() - 1) * (n - 1):
        return False
    return y == row_member(n, a)
