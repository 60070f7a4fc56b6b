"""A wood written as texts, and read from them; whole numbers read from figures."""

from aheadword.errors import NoText
from aheadword.woods import Wood
from aheadword.worths import is_word

MOST_FIGURES = 15


def is_figure(sign):
    # isdigit would let in figures beyond 0 to 9.
    return "0" <= sign <= "9"


def number_of(text, most_figures):
    """The whole number that the text is, or None where it is none."""
    if not 1 <= len(text) <= most_figures or not all([is_figure(sign) for sign in text]):
        return None
    if text[0] == "0" and text != "0":
        return None
    return int(text)


def rated_of(text):
    """The rated word that the text tells, or None where it tells none."""
    sides = text.partition(" ")
    count = number_of(sides[0], MOST_FIGURES)
    if count is None or not is_word(sides[2]):
        return None
    return (sides[2], count)


def wood_texts(wood):
    return [f"{worth} {word}" for word, worth in wood.words()]


def read_wood(texts):
    wood = Wood()
    last = ""
    for row, text in enumerate(texts):
        pair = rated_of(text)
        # While words rise, one that stood in a text ahead does not come behind the last one either.
        if pair is None or pair[0] <= last:
            raise NoText(row)
        last = pair[0]
        wood.put(last, pair[1])
    return wood
