"""Layers: one's own words above those of a house, and hidden words that are never told."""

from aheadword.errors import Absent, NoWord, Twice
from aheadword.ranks import best_of
from aheadword.woods import Wood
from aheadword.worths import is_word


def with_own(rated, own):
    return [(word, worth, own) for word, worth in best_of(rated, len(rated))]


class Layers:
    def __init__(self, house):
        # No copy: what is done to the house is seen here at once.
        self.house = house
        self.own = Wood()
        self.veiled = {}

    def put(self, word, count):
        self.own.put(word, count)

    def strike(self, word):
        self.own.strike(word)

    def hide(self, word):
        # First, since a thing that is no word may be one that a dict cannot be asked for.
        if not is_word(word):
            raise NoWord(f"{word!r} is no word")
        if word in self.veiled:
            raise Twice(f"{word!r} is hidden already")
        self.veiled[word] = True

    def show(self, word):
        if word not in self.veiled:
            raise Absent(f"{word!r} is not hidden")
        self.veiled.pop(word)

    def told(self, beginning, many):
        return self.all_told(beginning)[:many]

    def all_told(self, beginning):
        own = [pair for pair in self.own.begun(beginning) if pair[0] not in self.veiled]
        house = [pair for pair in self.house.begun(beginning) if self.is_seen_of_house(pair[0])]
        return with_own(own, True) + with_own(house, False)

    def is_seen_of_house(self, word):
        return word not in self.veiled and not self.own.has(word)

    def use(self, word, times=1):
        if word in self.veiled:
            raise Absent(f"{word!r} is hidden")
        if self.own.has(word):
            self.own.use(word, times)
        else:
            self.house.use(word, times)

    def fade(self, times=1):
        self.own.fade(times)

    def own_words(self):
        return self.own.words()

    def hidden(self):
        return sorted(self.veiled)
