"""Pairs (x, y) for which x * x and (a * a - 1) * y * y are one apart, and their indexes."""


def pair(n, a):
    """Return the pair of a with the index n, from 0 on."""
    x, y = 1, 0
    for digit in f"{n:b}":
        x, y = _doubled(x, y)
        if digit == "1":
            x, y = _next(x, y, a)
    return x, y


def pair_rest(n, a, m):
    """Return the rests of the pair of a with the index n when it is divided by m, from 1 on."""
    x, y, base = 1 % m, 0, a % m
    for digit in f"{n:b}":
        x, y = _rests(_doubled(x, y), m)
        if digit == "1":
            x, y = _rests(_next(x, y, base), m)
    return x, y


def _doubled(x, y):
    """Return the pair with twice the index."""
    return 2 * x * x - 1, 2 * x * y


def _next(x, y, a):
    """Return the pair with the index that is greater by one."""
    return a * x + (a * a - 1) * y, x + a * y


def _rests(numbers, m):
    x, y = numbers
    return x % m, y % m


def added(first, second, a):
    """Return the pair whose index is the sum of those of two pairs of a."""
    x, y = first
    u, v = second
    return x * u + (a * a - 1) * y * v, x * v + y * u


def taken(first, second, a):
    """Return the pair whose index is that of the first pair without that of the second one."""
    x, y = first
    u, v = second
    return x * u - (a * a - 1) * y * v, y * u - x * v


def index_of(value, a):
    """Return the index of a pair of a, or None for every other tuple of two integers."""
    x, y = value
    if x < 0 or y < 0 or x * x - (a * a - 1) * y * y != 1:
        return None
    # The pairs with the indexes 1, 2, 4 and so on, as long as they are not beyond this one.
    steps = []
    here = (a, 1)
    while here[1] <= y:
        steps.append(here)
        here = _doubled(*here)
    index = 0
    rest = (x, y)
    for step in reversed(steps):
        index = 2 * index
        if step[1] <= rest[1]:
            index = index + 1
            rest = taken(rest, step, a)
    return index


def rank(a, m):
    """Return the least n from 1 on for which m divides the member number n of the row of a."""
    double = 2 * a % m
    before, here, n = 0, 1 % m, 1
    while here != 0:
        before, here, n = here, (double * here - before) % m, n + 1
    return n
