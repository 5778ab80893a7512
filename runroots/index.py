"""The index of a member of a row, forced by three pairs and by rests."""

from runroots.integers import is_natural, raised
from runroots.pairs import pair
from runroots.poly import constant, plus, scaled, times, unknown
from runroots.relations import equal, holds, one_apart

NAMES = ("x", "y", "u", "v", "s", "t", "b", "r", "p", "q", "c", "d", "e")


def witnesses(k, a):
    """Return the thirteen numbers that show which member of the row of a has the index k, from 1 on."""
    (x, y), (u, v), (s, t), b = _three_pairs(k, a)
    return {
        "x": x, "y": y, "u": u, "v": v, "s": s, "t": t, "b": b,
        "r": v // (y * y) - 1,
        "p": (b - 1) // (4 * y),
        "q": (b - a) // u,
        "c": (s - x) // u,
        "d": (t - k) // (4 * y),
        "e": y - k,
    }


def _three_pairs(k, a):
    """Return the two pairs of a, and that of the base b, and b."""
    x, y = pair(k, a)
    u, v = pair(2 * k * y, a)
    # The square of u is 1 more than a multiple of 4 * y, so u itself undoes a multiplication by u there.
    q = (1 - a) * u % (4 * y)
    b = a + q * u
    return (x, y), (u, v), pair(k, b), b


def is_witness(k, a, values):
    """Return whether a value is a dict of thirteen numbers that satisfy the equations for an index k and a base a."""
    if k < 1 or a < 2 or not isinstance(values, dict) or len(values) != len(NAMES):
        return False
    if not all([is_natural(values.get(name)) for name in NAMES]):
        return False
    numbers = {name: unknown(name) for name in NAMES}
    return all([holds(relation, values) for relation in index_equations(constant(k), constant(a), numbers)])


def index_equations(k, a, numbers):
    """Return the nine equations as relations, for polynomials k and a and a dict from the names to polynomials."""
    x, y, u, v, s, t, b, r, p, q, c, d, e = [numbers[name] for name in NAMES]
    one, fourfold = constant(1), scaled(y, 4)
    return [
        one_apart(x, y, a),
        one_apart(u, v, a),
        one_apart(s, t, b),
        equal(v, times(plus(r, one), times(y, y))),
        equal(b, plus(one, times(p, fourfold))),
        equal(b, plus(a, times(q, u))),
        equal(s, plus(x, times(c, u))),
        equal(t, plus(k, times(d, fourfold))),
        equal(y, plus(k, e)),
    ]


def digits_needed(k, a):
    """Return the number of decimal digits of the greatest of the thirteen numbers."""
    _, (u, _), (s, _), _ = _three_pairs(k, a)
    # The numbers x, y, v, r and e are not above u, and the others not above s.
    greatest = max(u, s)
    # A binary digit is a little more than 0.301029995 decimal ones, so the count begins with too few, if not right.
    count = (greatest.bit_length() - 1) * 301029995 // 10 ** 9
    power = raised(10, count)
    while power <= greatest:
        count, power = count + 1, power * 10
    return count
