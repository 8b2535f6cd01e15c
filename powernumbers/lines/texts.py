"""What lines tell that end in a TEXT."""

from powernumbers.counts.bounds import count_to
from powernumbers.counts.kin import is_free, is_full
from powernumbers.counts.ordered import beside, nearest, place_of
from powernumbers.errors import NoAsk
from powernumbers.lines.reading import figures_and_text, figures_read, text_read
from powernumbers.pairs.apart import pairs_apart
from powernumbers.pairs.sums import pairs_with
from powernumbers.roots.exact import MOST_EXPONENT, number_shown
from powernumbers.roots.ways import ways_of

MOST_NUMBER = 10 ** 40
MOST_FAIR = 10 ** 12
MOST_SUM = 10 ** 8
MOST_APART = 10 ** 6


def told_of_text(word, rest):
    """The rows told to the line of the word, a blank and the rest, or a refusal."""
    if word not in TOLD:
        raise NoAsk(f"no such line: {word}")
    told = TOLD[word]
    return told(rest)


def _is(text):
    ways = ways_of(text_read(text, 0, MOST_NUMBER))
    return [f"{number_shown(base)}^{number_shown(exponent)}" for base, exponent in ways]


def _count(text):
    return [number_shown(count_to(text_read(text, 0, MOST_NUMBER)))]


def _place(text):
    return [number_shown(place_of(text_read(text, 0, MOST_NUMBER)))]


def _near(text):
    return [number_shown(nearest(text_read(text, 0, MOST_NUMBER)))]


def _beside(text):
    lesser, greater = beside(text_read(text, 0, MOST_NUMBER))
    shown = "none" if lesser is None else number_shown(lesser)
    return [f"{shown} {number_shown(greater)}"]


def _sums(text):
    return _pairs_shown(pairs_with(text_read(text, 0, MOST_SUM)))


def _full(text):
    return [_yes_or_no(is_full(text_read(text, 1, MOST_FAIR)))]


def _apart(rest):
    figures, text = figures_and_text(rest)
    difference = figures_read(figures, 1, MOST_APART)
    return _pairs_shown(pairs_apart(difference, text_read(text, 0, MOST_FAIR)))


def _free(rest):
    figures, text = figures_and_text(rest)
    exponent = figures_read(figures, 2, MOST_EXPONENT)
    return [_yes_or_no(is_free(text_read(text, 1, MOST_FAIR), exponent))]


def _pairs_shown(pairs):
    return [f"{number_shown(p)} {number_shown(q)}" for p, q in pairs]


def _yes_or_no(truth):
    return "yes" if truth else "no"


TOLD = {
    "is": _is,
    "count": _count,
    "place": _place,
    "near": _near,
    "beside": _beside,
    "sums": _sums,
    "full": _full,
    "apart": _apart,
    "free": _free,
}
