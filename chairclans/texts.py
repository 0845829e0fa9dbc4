"""The texts of ratios: how they are written, and read again [5]."""

from chairclans.errors import NoText
from chairclans.ratios import ratio

FIGURES = "0123456789"
MOST_FIGURES = 60


def shown(one):
    top = one[0]
    bottom = one[1]
    if bottom == 1:
        return str(top)
    return f"{top}/{bottom}"


def number_in(figures):
    # Python's own reading takes blanks, signs and strokes that are refused here.
    if not 1 <= len(figures) <= MOST_FIGURES:
        raise NoText("there are one to sixty figures on top and below")
    for sign in figures:
        if sign not in FIGURES:
            raise NoText("there are figures alone on top and below")
    return int(figures)


def top_in(text):
    if text.startswith("-"):
        return -number_in(text[1:])
    return number_in(text)


def read(text):
    parts = text.partition("/")
    top = top_in(parts[0])
    bottom = 1
    if parts[1] != "":
        bottom = number_in(parts[2])
    if bottom == 0:
        raise NoText("the bottom of a ratio is not 0")
    one = ratio(top, bottom)
    # Every ratio is written in one way, so whatever is written otherwise shows here.
    if shown(one) != text:
        raise NoText("the ratio is written otherwise")
    return one
