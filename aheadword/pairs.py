"""What was chosen behind which word, and a wood's words ranked by it."""

from aheadword.ranks import best_of, rank_key
from aheadword.worths import used_mark, worth_at


class Pairs:
    def __init__(self):
        self.marks = {}
        self.now = 0

    def choose(self, before, word):
        mark = self.marks.get((before, word), (0, self.now))
        self.marks[(before, word)] = used_mark(mark, self.now, 1)

    def fade(self, times=1):
        self.now += times

    def let_go(self, word):
        for pair in list(self.marks):
            if word in pair:
                self.marks.pop(pair)

    def worth_of(self, before, word):
        return worth_at(self.marks.get((before, word), (0, self.now)), self.now)

    def behind(self, before):
        rated = [(pair[1], self.worth_of(before, pair[1])) for pair in self.marks if pair[0] == before]
        living = [one for one in rated if one[1] >= 1]
        return best_of(living, len(living))


def ranked_key(one):
    return (-one[1], rank_key((one[0], one[2])))


def ranked(wood, pairs, before, beginning, many):
    rows = [(word, pairs.worth_of(before, word), worth) for word, worth in wood.begun(beginning)]
    return sorted(rows, key=ranked_key)[:many]
