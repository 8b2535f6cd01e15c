"""All powers to a number, for what goes through them."""

from math import isqrt

from powernumbers.roots.exact import root_of, taken


def powers_to(most):
    """All powers to most, this included, rising, each once."""
    squares = [base * base for base in range(1, isqrt(most) + 1)]
    return sorted(set(squares + odd_powers_to(most)))


def odd_powers_to(most):
    """The powers of bases from 2 on by odd exponents, to most; with the squares these are all."""
    powers = []
    # The least of them by an exponent has one bit more than the exponent.
    for exponent in range(3, most.bit_length(), 2):
        root, _ = root_of(most, exponent)
        powers.extend([taken(base, exponent) for base in range(2, root + 1)])
    return powers
