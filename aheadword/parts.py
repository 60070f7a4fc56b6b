"""Words of several parts, found by the beginning of any of their tails."""

from aheadword.ranks import best_of
from aheadword.woods import Wood


def tail_of(word, place):
    return " ".join(word.split(" ")[place:])


def found_at(word, beginning):
    for place in range(len(word.split(" "))):
        if tail_of(word, place).startswith(beginning):
            return place
    return None


class PartWood(Wood):
    def all_found(self, beginning):
        return [pair for pair in self.begun("") if found_at(pair[0], beginning) is not None]

    def found(self, beginning, many):
        best = best_of(self.all_found(beginning), many)
        return [(word, worth, found_at(word, beginning)) for word, worth in best]

    def part_top(self, beginning):
        return max([pair[1] for pair in self.all_found(beginning)], default=None)
