"""Polynomials: dicts from monomials, which are tuples of names, to integers other than 0."""

from runroots.integers import is_number

LONGEST_NAME = 12


def is_name(value):
    """Return whether a value is a name: 1 to 12 letters and digits, a letter first."""
    if not isinstance(value, str) or not 1 <= len(value) <= LONGEST_NAME:
        return False
    return value.isascii() and value.isalnum() and value[0].isalpha()


def is_polynomial(value):
    """Return whether a value is a polynomial."""
    if not isinstance(value, dict):
        return False
    for monomial, number in value.items():
        if not _is_monomial(monomial) or not is_number(number) or number == 0:
            return False
    return True


def _is_monomial(value):
    if not isinstance(value, tuple):
        return False
    for item in value:
        if not is_name(item):
            return False
    return list(value) == sorted(value)


def constant(number):
    """Return the polynomial of an integer."""
    return _without_zeros({(): number})


def unknown(name):
    """Return the polynomial that consists of one name."""
    return {(name,): 1}


def copied(polynomial):
    """Return a new dict with the same terms."""
    return {monomial: polynomial[monomial] for monomial in polynomial}


def collected(terms):
    """Return the polynomial of a list of terms, tuples of a monomial and a number, with those of one monomial added."""
    sums = {}
    for monomial, number in terms:
        sums[monomial] = sums.get(monomial, 0) + number
    return _without_zeros(sums)


def sum_of(polynomials):
    """Return the sum of a list of polynomials."""
    return collected([term for polynomial in polynomials for term in polynomial.items()])


def plus(first, second):
    """Return the sum of two polynomials."""
    return sum_of([first, second])


def minus(first, second):
    """Return the difference of two polynomials."""
    return plus(first, scaled(second, -1))


def scaled(polynomial, number):
    """Return the product of a polynomial and an integer."""
    return _without_zeros({monomial: polynomial[monomial] * number for monomial in polynomial})


def times(first, second):
    """Return the product of two polynomials."""
    return collected([
        (_merged(left, right), number * factor)
        for left, number in first.items()
        for right, factor in second.items()
    ])


def power_of(polynomial, exponent):
    """Return the product of so many factors, for an exponent from 0 on."""
    product = constant(1)
    for _ in range(exponent):
        product = times(product, polynomial)
    return product


def replaced(polynomial, name, other):
    """Return the polynomial with another one in the place of a name."""
    most = max([0] + [monomial.count(name) for monomial in polynomial])
    powers = [constant(1)]
    for _ in range(most):
        powers.append(times(powers[-1], other))
    terms = []
    for monomial, number in polynomial.items():
        rest = tuple([item for item in monomial if item != name])
        for added, factor in powers[monomial.count(name)].items():
            terms.append((_merged(rest, added), number * factor))
    return collected(terms)


def value_of(polynomial, values):
    """Return the value of a polynomial, for a dict from names to integers."""
    total = 0
    for monomial, number in polynomial.items():
        term = number
        for name in monomial:
            term = term * values[name]
        total = total + term
    return total


def names_in(polynomial):
    """Return the names that occur, in ascending order."""
    return sorted({name for monomial in polynomial for name in monomial})


def degree(polynomial):
    """Return the greatest length of a monomial, or -1 for the polynomial 0."""
    return max([-1] + [len(monomial) for monomial in polynomial])


def _merged(first, second):
    return tuple(sorted(first + second))


def _without_zeros(sums):
    return {monomial: sums[monomial] for monomial in sums if sums[monomial] != 0}
