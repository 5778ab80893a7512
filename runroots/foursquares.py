"""Sums of two, three and four squares."""

from math import isqrt

from runroots.binomial import twos
from runroots.errors import TooGreat

MOST_LISTED = 10000
MOST_OF_FOUR = 10 ** 30
MOST_OF_TWO = 10 ** 10


def square_sums(n):
    """Return all descending tuples of four numbers from 0 on whose squares have the sum n, in ascending order."""
    if n > MOST_LISTED:
        raise TooGreat(f"sums are listed up to {MOST_LISTED}")
    found = []
    for a in range(isqrt(n) + 1):
        for b in range(min(a, isqrt(n - a * a)) + 1):
            rest = n - a * a - b * b
            for c in range(min(b, isqrt(rest)) + 1):
                d = isqrt(rest - c * c)
                if d <= c and c * c + d * d == rest:
                    found.append((a, b, c, d))
    return found


def four_squares(n):
    """Return the last of the descending tuples of four numbers whose squares have the sum n."""
    if n > MOST_OF_FOUR:
        raise TooGreat("this number is too great to be taken apart")
    # Squares leave the rests 0, 1 and 4 when divided by 8, so the sum is a multiple only if all four are even.
    if n > 0 and n % 8 == 0:
        a, b, c, d = four_squares(n // 4)
        return 2 * a, 2 * b, 2 * c, 2 * d
    a = isqrt(n)
    while not is_three_squares(n - a * a):
        a = a - 1
    return a, *_three_squares(n - a * a)


def _three_squares(n):
    """Return the last of the descending tuples of three numbers, for a number that is a sum of three squares."""
    if n > 0 and n % 4 == 0:
        b, c, d = _three_squares(n // 4)
        return 2 * b, 2 * c, 2 * d
    b = isqrt(n)
    while not _has_two_squares(n - b * b):
        b = b - 1
    return b, *_two_squares(n - b * b)


def _two_squares(n):
    """Return the last of the descending tuples of two numbers, for a number that is a sum of two squares."""
    c = isqrt(n)
    while not _is_square(n - c * c):
        c = c - 1
    return c, isqrt(n - c * c)


def _is_square(n):
    return isqrt(n) * isqrt(n) == n


def is_three_squares(n):
    """Return whether n is a sum of three squares."""
    if n <= 0:
        return n == 0
    places = twos(n)
    return places & 1 == 1 or (n >> places) & 7 != 7


def is_two_squares(n):
    """Return whether n is a sum of two squares."""
    if n > MOST_OF_TWO:
        raise TooGreat("this number is too great to be tried")
    return _has_two_squares(n)


def _has_two_squares(n):
    """Return whether n is a sum of two squares: if each prime with the rest 3 by 4 divides it evenly often."""
    if n <= 0:
        return n == 0
    rest = n >> twos(n)
    factor = 3
    # Where a prime with the rest 3 by 4 divides oddly often what has the rest 1, what it leaves has the rest 3.
    while rest & 3 == 1 and factor * factor <= rest:
        while rest % factor == 0:
            rest = rest // factor
        factor = factor + 2
    return rest & 3 == 1


def square_product(first, second):
    """Return four integers, the sum of whose squares is the product of the sums of the squares of both."""
    a, b, c, d = first
    e, f, g, h = second
    return (
        a * e + b * f + c * g + d * h,
        a * f - b * e + c * h - d * g,
        a * g - b * h - c * e + d * f,
        a * h + b * g - c * f - d * e,
    )
