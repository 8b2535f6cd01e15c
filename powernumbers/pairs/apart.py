"""Powers that are so far apart, and the greatest gap between them."""

from itertools import pairwise
from math import isqrt

from powernumbers.pairs.powers import odd_powers_to, powers_to


def pairs_apart(difference, most):
    """All pairs of powers (p, q) to most, q more than p by the difference, rising."""
    pairs = _squares_apart(difference, most) + _others_apart(difference, most)
    return tuple(sorted(set(pairs)))


def _squares_apart(difference, most):
    """The pairs in which both are squares."""
    pairs = []
    # The difference of two squares is the product of their bases' difference and
    # sum, which are both odd or both even.
    for less in range(2 - difference % 2, isqrt(difference) + 1, 2):
        more = difference // less
        if less * more == difference and less < more and (less + more) % 2 == 0:
            low = (more - less) // 2
            high = (more + less) // 2
            if high * high <= most:
                pairs.append((low * low, high * high))
    return pairs


def _others_apart(difference, most):
    """The pairs in which one or both are powers by an odd exponent."""
    odd = {power: True for power in odd_powers_to(most)}
    pairs = []
    for power in odd:
        greater = power + difference
        if greater <= most and (greater in odd or _is_square(greater)):
            pairs.append((power, greater))
        lesser = power - difference
        if lesser >= 1 and (lesser in odd or _is_square(lesser)):
            pairs.append((lesser, power))
    return pairs


def _is_square(number):
    root = isqrt(number)
    return root * root == number


def greatest_gap(most):
    """The triple (gap, p, q) of the first greatest gap between powers to most, or None."""
    widest = None
    powers = powers_to(most)
    for lesser, greater in pairwise(powers):
        gap = greater - lesser
        if widest is None or gap > widest[0]:
            widest = (gap, lesser, greater)
    return widest
