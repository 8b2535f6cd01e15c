"""Powers that come to a number together."""

from powernumbers.pairs.powers import powers_to


def pairs_with(number):
    """All pairs of powers (p, q), p at most q, that come to the number, rising by p."""
    powers = {power: True for power in powers_to(number)}
    lesser = [power for power in powers if 2 * power <= number and number - power in powers]
    return tuple([(power, number - power) for power in lesser])


def fewest_with(number):
    """The fewest powers that come to the number, falling; the greatest such row."""
    if number == 0:
        return ()
    powers = {power: True for power in reversed(powers_to(number))}
    many = 1
    row = _greatest_row(number, many, powers)
    # This ends, as every number is a sum of at most four squares.
    while row is None:
        many += 1
        row = _greatest_row(number, many, powers)
    return row


def _greatest_row(number, many, powers):
    """The greatest row of so many of the powers, which fall, that comes to the number, or None."""
    if many == 1:
        return (number,) if number in powers else None
    for power in powers:
        # The row found falls, as a greater one behind would have been tried here
        # before; so its first one is not below its share.
        if power * many < number:
            return None
        if power < number:
            rest = _greatest_row(number - power, many - 1, powers)
            if rest is not None:
                return (power,) + rest
    return None
