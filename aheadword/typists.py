"""A typist: the typed text, the line of chosen words, and the words told for them."""

from aheadword.errors import NoChoice, NoSign
from aheadword.pairs import Pairs, ranked_key
from aheadword.worths import MOST_SIGNS, is_letter


def is_sign(text):
    # The length first: a longer text may lie between two letters, too.
    return len(text) == 1 and (text == " " or is_letter(text))


def told_key(one):
    return (not one[3], ranked_key(one))


class Typist:
    def __init__(self, layers, many):
        # No copy: what is done to the layers and their house is seen here at once.
        self.layers = layers
        self.many = many
        self.pairs = Pairs()
        self.text = ""
        self.chosen = []

    def key(self, sign):
        if not is_sign(sign):
            raise NoSign(f"{sign!r} is no sign")
        if len(self.text) >= MOST_SIGNS:
            raise NoSign("there is no room for one more sign")
        self.text += sign

    def back(self):
        if self.text == "":
            raise NoSign("there is no sign to take off")
        self.text = self.text[:-1]

    def clear(self):
        self.text = ""

    def typed(self):
        return self.text

    def line(self):
        return list(self.chosen)

    def last_chosen(self):
        return self.chosen[-1] if self.chosen else ""

    def told(self):
        before = self.last_chosen()
        rows = [(word, self.pairs.worth_of(before, word), worth, own)
                for word, worth, own in self.layers.all_told(self.text)]
        return sorted(rows, key=told_key)[:self.many]

    def take(self, number):
        told = self.told()
        if not 0 <= number < len(told):
            raise NoChoice(f"{number} is no told word's number")
        word = told[number][0]
        self.layers.use(word)
        self.pairs.choose(self.last_chosen(), word)
        self.chosen.append(word)
        self.clear()
        return word

    def fade(self, times=1):
        self.layers.fade(times)
        self.pairs.fade(times)
