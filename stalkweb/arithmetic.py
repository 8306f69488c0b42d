"""Sums and products of numbers that were looked at already.

By a field of 0 a number is a fraction (top, bottom), by a prime a rest (top, 1).
Nothing is refused here: stalkweb/numbers.py looks at what is handed in.
"""

from math import gcd

NOUGHT = (0, 1)
ONE = (1, 1)


def is_nought(field, whole):
    """Whether a whole number is nought in the field."""
    if field == 0:
        return whole == 0
    return whole % field == 0


def inverse(prime, whole):
    """What makes 1 with the whole number by the prime; it is no multiple of the prime."""
    # Fermat: the power one less than the prime is 1, so the power two less makes 1.
    found = 1
    for _ in range(prime - 2):
        found = found * whole % prime
    return found


def lowest(field, top, bottom):
    """The number that top over bottom is; bottom is not nought in the field."""
    if field != 0:
        return (top % field * inverse(field, bottom % field) % field, 1)
    shared = gcd(top, bottom)
    if bottom < 0:
        shared = -shared
    return (top // shared, bottom // shared)


def added(field, one, other):
    """The sum of two numbers."""
    if field != 0:
        return ((one[0] + other[0]) % field, 1)
    # Only what both bottoms share can be in the sum's top too: far less to divide out of great numbers.
    shared = gcd(one[1], other[1])
    part = one[1] // shared
    top = one[0] * (other[1] // shared) + other[0] * part
    common = gcd(top, shared)
    return (top // common, part * (other[1] // common))


def multiplied(field, one, other):
    """The product of two numbers."""
    if field != 0:
        return (one[0] * other[0] % field, 1)
    return lowest(field, one[0] * other[0], one[1] * other[1])


def negative(field, number):
    """What makes nought with the number."""
    if field != 0:
        return (-number[0] % field, 1)
    return (-number[0], number[1])


def flipped(field, number):
    """What makes 1 with the number, which is not nought."""
    return lowest(field, number[1], number[0])
