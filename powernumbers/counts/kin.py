"""Numbers each of whose primes comes at least twice, and numbers that no power divides."""

from math import isqrt

from powernumbers.roots.exact import root_of, taken
from powernumbers.roots.primes import parted
from powernumbers.roots.ways import is_power


def is_full(number):
    """Whether each prime that divides the number divides it twice."""
    pairs, left = parted(number, 5)
    # Four primes or fewer come to a full number just where they come to a power:
    # where there are none, two, three or four alike, or two and two alike.
    return all([times > 1 for _, times in pairs]) and is_power(left)


def count_full(most):
    """How many full numbers there are to most, this included."""
    # Each is in just one way a square times the third power of a number that
    # no square divides.
    root, _ = root_of(most, 3)
    signs = _signs_to(root)
    return sum([isqrt(most // base ** 3) for base in range(1, root + 1) if signs[base] != 0])


def next_full(number):
    """The least full number above the number."""
    root, _ = root_of(number, 3)
    return min([_next_square_times(number, base ** 3) for base in range(1, root + 2)])


def _next_square_times(number, factor):
    """The least square times the factor that is above the number."""
    return (isqrt(number // factor) + 1) ** 2 * factor


def is_free(number, exponent):
    """Whether no number from 2 on, taken to the exponent, divides the number."""
    return greatest_in(number, exponent) == 1


def count_free(most, exponent):
    """How many numbers from 1 to most are free of powers by the exponent."""
    # Of all, those that one prime's power divides go, those that two divide went
    # twice and come again, and so on.
    root, _ = root_of(most, exponent)
    signs = _signs_to(root)
    return sum([signs[base] * (most // taken(base, exponent)) for base in range(1, root + 1)])


def greatest_in(number, exponent):
    """The greatest base whose power by the exponent divides the number."""
    pairs, left = parted(number, exponent + 1)
    greatest = 1
    for prime, times in pairs:
        greatest = greatest * taken(prime, times // exponent)
    # Of no more primes than the exponent, what is left holds such a power of one
    # only where it is just that.
    root, over = root_of(left, exponent)
    if over == 0:
        greatest = greatest * root
    return greatest


def _signs_to(most):
    """By number: 0 where a square divides it, else 1 or -1, as its primes are even or odd in number."""
    signs = [0, 1] + [0] * (most - 1)
    # The signs of all divisors of a number above 1 come to 0 together.
    for number in range(1, most + 1):
        sign = signs[number]
        if sign != 0:
            for multiple in range(2 * number, most + 1, number):
                signs[multiple] -= sign
    return signs
