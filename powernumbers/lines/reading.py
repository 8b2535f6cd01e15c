"""The numbers in a line: such in figures alone, and a TEXT that writes one."""

from powernumbers.errors import NoAsk
from powernumbers.roots.exact import FIGURES, read_number

MOST_FIGURES = 18


def figures_read(figures, least, most):
    """The number from least to most that the figures of ten write, or NoAsk."""
    if not _are_figures(figures):
        raise NoAsk(f"no number in figures: {figures}")
    number = int(figures)
    if number < least or number > most:
        raise NoAsk(f"not from {least} to {most}: {figures}")
    return number


def _are_figures(figures):
    if figures == "" or len(figures) > MOST_FIGURES:
        return False
    if figures[0] == "0" and figures != "0":
        return False
    return all([sign in FIGURES for sign in figures])


def text_read(text, least, most):
    """The number from least to most that the TEXT writes, or NoNumber, or NoAsk."""
    number = read_number(text)
    if number < least or number > most:
        raise NoAsk(f"not from {least} to {most}: {text}")
    return number


def figures_and_text(rest):
    """The figures, and the TEXT behind them and one blank, or NoAsk without that blank."""
    figures, blank, text = rest.partition(" ")
    if blank == "":
        raise NoAsk(f"no text behind: {rest}")
    return figures, text
