"""Binomial coefficients, their factors 2, and digits."""

from math import comb

from runroots.integers import raised


def binomial(n, k):
    """Return the number of ways to choose k of n things, for n and k from 0 on."""
    return comb(n, k)


def is_under(a, b):
    """Return whether b has a 1 in binary wherever a has one, for numbers from 0 on."""
    return (a & b) == a


def carries(a, b):
    """Return how many carries there are when two numbers from 0 on are added in binary."""
    # A digit of the sum differs from that of a + b without carries exactly where a carry comes in.
    places = a ^ b ^ (a + b)
    return f"{places:b}".count("1")


def twos(n):
    """Return how often 2 divides n, for n from 1 on."""
    return (n & -n).bit_length() - 1


def digit_of(number, base, position):
    """Return the digit of a number from 0 on at a position in a base from 2 on."""
    # So many binary digits are below the position at least: beyond the number the power is not needed.
    if (base.bit_length() - 1) * position >= number.bit_length():
        return 0
    return number // raised(base, position) % base


def power_digits(b):
    """Return the digits of (u + 1) ** b in the base u = 2 ** (b + 1), the lowest one first."""
    digits = [1]
    for k in range(b):
        digits.append(digits[-1] * (b - k) // (k + 1))
    return digits
