"""A desk that is asked by lines and tells rows."""

from powernumbers.counts.ordered import nth_power
from powernumbers.errors import NoAsk
from powernumbers.kept import KeptProduct
from powernumbers.lines.reading import figures_read
from powernumbers.lines.texts import told_of_text
from powernumbers.roots.exact import number_shown

MOST_KEPT = 60
MOST_FACTOR = 10 ** 6
MOST_LACKING_EXPONENT = 10
MOST_PLACE = 10 ** 18


class Desk:
    """A kept product, and lines about it and about powers."""

    def __init__(self):
        self._product = KeptProduct()

    def ask(self, line):
        """The rows told to the line, a list of texts, or a refusal."""
        word, blank, rest = line.partition(" ")
        if blank == "":
            return self._told_of_product(word)
        if word == "come":
            return self._come(rest)
        if word == "go":
            return self._go(rest)
        if word == "lacks":
            exponent = figures_read(rest, 2, MOST_LACKING_EXPONENT)
            return [number_shown(self._product.lacks_now(exponent))]
        if word == "nth":
            place = figures_read(rest, 0, MOST_PLACE)
            return [number_shown(nth_power(place))]
        return told_of_text(word, rest)

    def _told_of_product(self, word):
        if word == "numbers":
            numbers = self._product.numbers_now()
            return [" ".join([number_shown(number) for number in numbers])] if numbers else []
        if word == "product":
            exponent = self._product.exponent_now()
            return [f"power {number_shown(exponent)}" if exponent > 1 else "none"]
        raise NoAsk(f"no such line: {word}")

    def _come(self, figures):
        number = figures_read(figures, 0, MOST_FACTOR)
        if len(self._product.numbers_now()) >= MOST_KEPT:
            raise NoAsk(f"{MOST_KEPT} numbers are here: {number}")
        self._product.come(number)
        return []

    def _go(self, figures):
        self._product.go(figures_read(figures, 0, MOST_FACTOR))
        return []
