"""A desk: a house, layers and a typist, told what to do by rows of text."""

from aheadword.errors import NoRow
from aheadword.layers import Layers
from aheadword.texts import number_of, wood_texts
from aheadword.typists import Typist
from aheadword.woods import Wood

ROW_FIGURES = 10
MOST_COUNT = 1_000_000_000
MOST_TIMES = 1_000_000
MOST_NUMBER = 9_999_999_999


def number_within(text, least, most):
    number = number_of(text, ROW_FIGURES)
    if number is None or not least <= number <= most:
        raise NoRow(f"{text!r} is no number that may stand there")
    return number


def count_and_word(text):
    sides = text.partition(" ")
    # Without the blank there is no word at all; with it, the word may be any text.
    if sides[1] == "":
        raise NoRow(f"no blank behind {text!r}")
    return (number_within(sides[0], 0, MOST_COUNT), sides[2])


def listed(texts):
    return ", ".join(texts) if texts else "none"


def told_text(number, word, own):
    layer = "own" if own else "house"
    return f"{number} {word} {layer}"


class Desk:
    def __init__(self, many):
        self.house = Wood()
        self.layers = Layers(self.house)
        self.typist = Typist(self.layers, many)

    def say(self, row):
        sides = row.partition(" ")
        if sides[1] == "":
            return self.say_alone(row)
        return self.say_with(sides[0], sides[2])

    def say_alone(self, row):
        if row == "told":
            return listed([told_text(number, one[0], one[3]) for number, one in enumerate(self.typist.told())])
        if row == "line":
            return listed(self.typist.line())
        if row == "house":
            return listed(wood_texts(self.house))
        if row == "back":
            self.typist.back()
        elif row == "clear":
            self.typist.clear()
        else:
            raise NoRow(f"{row!r} is no row")
        return self.typed_answer()

    def say_with(self, name, rest):
        if name == "key":
            self.typist.key(rest)
            return self.typed_answer()
        if name == "take":
            return self.typist.take(number_within(rest, 0, MOST_NUMBER))
        self.change(name, rest)
        return "ok"

    def change(self, name, rest):
        if name == "put":
            counted = count_and_word(rest)
            self.house.put(counted[1], counted[0])
        elif name == "own":
            counted = count_and_word(rest)
            self.layers.put(counted[1], counted[0])
        elif name == "use":
            self.house.use(rest)
        elif name == "strike":
            self.house.strike(rest)
        elif name == "disown":
            self.layers.strike(rest)
        elif name == "hide":
            self.layers.hide(rest)
        elif name == "show":
            self.layers.show(rest)
        elif name == "fade":
            self.go_on(rest)
        else:
            raise NoRow(f"{name!r} begins no row that goes on")

    def go_on(self, rest):
        if rest.startswith("own "):
            self.typist.fade(number_within(rest[len("own "):], 1, MOST_TIMES))
        else:
            self.house.fade(number_within(rest, 1, MOST_TIMES))

    def typed_answer(self):
        typed = self.typist.typed()
        return f"[{typed}]"
