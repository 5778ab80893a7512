"""Relations between polynomials that are said by equations."""

from runroots.poly import constant, plus, sum_of, times, unknown
from runroots.relations import equal


def less(first, second, name):
    """Return the relations that hold for some value of the unknown if the first polynomial is less."""
    return [equal(sum_of([first, constant(1), unknown(name)]), second)]


def same_rest(first, second, modulus, name, other):
    """Return the relations that hold for some values of the two unknowns if the modulus divides the difference."""
    return [equal(plus(first, times(modulus, unknown(name))), plus(second, times(modulus, unknown(other))))]


def either(first, second):
    """Return the relations that hold if one of two polynomials is 0."""
    return [("zero", times(first, second))]


def not_zero(polynomial, name):
    """Return the relations that hold for some value of the unknown if the polynomial is not 0."""
    return [equal(times(polynomial, polynomial), plus(unknown(name), constant(1)))]
