"""How many powers there are to a number."""

from powernumbers.roots.exact import root_of


def count_to(number):
    """How many powers there are to the number, this included."""
    return sum(counts_by_greatest(number))


def count_by(number, exponent):
    """How many powers by the exponent there are to the number, this included."""
    # The bases from 1 to the root, each with a power of its own.
    return root_of(number, exponent)[0]


def counts_by_greatest(number):
    """How many powers to the number have just that greatest exponent, for exponents from 2 on."""
    if number == 0:
        return ()
    # The least power by an exponent from base 2 on has one bit more than the exponent.
    most = max(number.bit_length() - 1, 2)
    counts = {}
    for exponent in range(most, 1, -1):
        greater = sum([counts[multiple] for multiple in range(2 * exponent, most + 1, exponent)])
        counts[exponent] = count_by(number, exponent) - 1 - greater
    # 1, which is left out above as it is a power by every exponent, counts to 2.
    counts[2] += 1
    return tuple([counts[exponent] for exponent in range(2, most + 1)])
