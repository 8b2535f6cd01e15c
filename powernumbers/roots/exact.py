"""Roots and powers of whole numbers, and how numbers are read and shown."""

from math import isqrt

from powernumbers.errors import NoNumber

FIGURES = "0123456789"
MOST_EXPONENT = 200
PART_FIGURES = 50
PART = 10 ** 50


def root_of(number, exponent):
    """The greatest root that taken to the exponent is not above the number, and what is left."""
    root = _root(number, exponent)
    return root, number - taken(root, exponent)


def _root(number, exponent):
    if exponent == 1 or number < 2:
        return number
    if exponent == 2:
        return isqrt(number)
    length = number.bit_length()
    if length <= exponent:
        return 1
    # Newton's steps from above the root fall, and never below it: where they
    # no longer fall they are there.
    root = 1 << ((length - 1) // exponent + 1)
    lower = _newton_step(number, exponent, root)
    while lower < root:
        root = lower
        lower = _newton_step(number, exponent, root)
    return root


def _newton_step(number, exponent, root):
    return ((exponent - 1) * root + number // taken(root, exponent - 1)) // exponent


def taken(base, exponent):
    """The base taken to the exponent; 0 to 0 is 1."""
    power = 1
    for place in reversed(range(exponent.bit_length())):
        power = power * power
        if (exponent >> place) & 1:
            power = power * base
    return power


def read_number(text):
    """The number that figures or BASE^EXPONENT write, or NoNumber."""
    base_end = _figures_end(text, 0)
    if base_end == len(text):
        return _worth(text)
    if text[base_end] != "^":
        raise NoNumber(base_end)
    start = base_end + 1
    end = _figures_end(text, start)
    if end < len(text):
        raise NoNumber(end)
    exponent = _worth(text[start:])
    if exponent > MOST_EXPONENT:
        raise NoNumber(start)
    return taken(_worth(text[:base_end]), exponent)


def _figures_end(text, start):
    """The place behind the figures that begin at start, or NoNumber where they write no number."""
    end = start
    while end < len(text) and text[end] in FIGURES:
        end += 1
    if end == start:
        raise NoNumber(start)
    if text[start] == "0" and end > start + 1:
        raise NoNumber(start)
    return end


def _worth(figures):
    # Figure by figure, as int refuses texts of more than 4300 figures.
    number = 0
    for figure in figures:
        number = number * 10 + int(figure)
    return number


def number_shown(number):
    """The number's figures of ten."""
    # In parts, as str refuses numbers of more than 4300 figures.
    parts = []
    while number >= PART:
        number, part = divmod(number, PART)
        parts.append(str(part).zfill(PART_FIGURES))
    parts.append(str(number))
    return "".join(parts[::-1])
