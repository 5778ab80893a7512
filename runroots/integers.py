"""Integers: what counts as one, and powers of any size."""


def is_number(value):
    """Return whether a value is an integer; True and False are none here."""
    return isinstance(value, int) and not isinstance(value, bool)


def is_natural(value):
    """Return whether a value is an integer from 0 on."""
    return is_number(value) and value >= 0


def raised(base, exponent):
    """Return the base to the power of an exponent from 0 on."""
    answer = 1
    for place in reversed(range(exponent.bit_length())):
        # From the highest binary digit down, nothing longer than the answer is ever squared.
        answer = answer * answer
        if (exponent >> place) & 1:
            answer = answer * base
    return answer
