"""Integers: what counts as one, and powers and decimal texts of any size."""

# Python itself refuses long decimals; where that is set lowest, it takes 640 digits.
MOST_DIGITS = 600
MOST_BITS = 1800


def is_number(value):
    """Return whether a value is an integer; True and False are none here."""
    return isinstance(value, int) and not isinstance(value, bool)


def is_natural(value):
    """Return whether a value is an integer from 0 on."""
    return is_number(value) and value >= 0


def raised(base, exponent):
    """Return the base to the power of an exponent from 0 on."""
    answer = 1
    for place in reversed(range(exponent.bit_length())):
        # From the highest binary digit down, nothing longer than the answer is ever squared.
        answer = answer * answer
        if (exponent >> place) & 1:
            answer = answer * base
    return answer


def decimal_text(number):
    """Return an integer in decimal, with a - before it if it is negative."""
    if number < 0:
        return "-" + decimal_text(-number)
    if number.bit_length() <= MOST_BITS:
        return str(number)
    # Ten has a little more than three bits, so this is about half of the digits, and never more.
    half = number.bit_length() * 3 // 20
    high, low = divmod(number, raised(10, half))
    return decimal_text(high) + decimal_text(low).zfill(half)


def natural_of(text):
    """Return the integer from 0 on that stands in decimal without leading zeros, or None if none does."""
    if not text.isascii() or not text.isdigit():
        return None
    if text.startswith("0") and text != "0":
        return None
    return _read(text)


def _read(digits):
    if len(digits) <= MOST_DIGITS:
        return int(digits)
    half = len(digits) // 2
    return _read(digits[:-half]) * raised(10, half) + _read(digits[-half:])
