"""Powers in their order: by their places, and beside a number."""

from math import isqrt

from powernumbers.counts.bounds import count_to
from powernumbers.roots.exact import root_of, taken
from powernumbers.roots.ways import is_power


def nth_power(place):
    """The power at the place, from 0 on."""
    many = place + 1
    # The power sought lies from low ** 2 to high ** 2. As few powers are no
    # squares, each round brings the two nearer, till they stay.
    low = 1
    high = many
    narrower = _narrower(many, low, high)
    while narrower != (low, high):
        low, high = narrower
        narrower = _narrower(many, low, high)
    power = low * low
    for _ in range(many - count_to(power)):
        power = _next_power(power)
    return power


def _narrower(many, low, high):
    # To the power sought there are so many powers: so many less those of them that
    # are no squares is how many squares there are, which is the root of the last one.
    return many - _others_to(high * high), many - _others_to(low * low)


def _others_to(number):
    """How many powers to the number are no squares."""
    return count_to(number) - isqrt(number)


def place_of(number):
    """How many powers are less than the number."""
    if number == 0:
        return 0
    return count_to(number - 1)


def beside(number):
    """The next lesser power, or None, and the next greater one."""
    return _last_power(number - 1), _next_power(number)


def nearest(number):
    """The nearest power, the lesser of two as near; of a power itself."""
    if is_power(number):
        return number
    lesser, greater = beside(number)
    if lesser is None or greater - number < number - lesser:
        return greater
    return lesser


def _next_power(number):
    """The least power above the number."""
    return min([taken(root_of(number, k)[0] + 1, k) for k in _exponents(number)])


def _last_power(number):
    """The greatest power to the number, this included, or None."""
    if number < 1:
        return None
    return max([taken(root_of(number, k)[0], k) for k in _exponents(number)])


def _exponents(number):
    # By greater exponents the root is 1, and 2 taken to the last one here is
    # above the number already.
    return list(range(2, max(number.bit_length(), 2) + 1))
