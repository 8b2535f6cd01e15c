"""What the program refuses."""


class PowerError(ValueError):
    """Any refusal."""


class NoAsk(PowerError):
    """A line that asks nothing; made of a text, which str tells."""


class NoNumber(PowerError):
    """A text that writes no number; place is where it fails, counted from 0."""

    def __init__(self, place):
        PowerError.__init__(self, f"no number: place {place}")
        self.place = place


class NoFactor(PowerError):
    """A number that cannot come to a product, or is not there to go."""

    def __init__(self, number):
        PowerError.__init__(self, f"no factor: {number}")
        self.number = number
