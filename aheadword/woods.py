"""A wood: words, each with a mark, and what is told of them by a beginning."""

from aheadword.errors import Absent, NoWord, Twice
from aheadword.ranks import ahead_of, best_of
from aheadword.worths import greatest_at, is_word, used_mark, worth_at


def longer_groups(text, rated):
    groups = {}
    for pair in rated:
        if pair[0] != text:
            groups.setdefault(pair[0][:len(text) + 1], []).append(pair)
    return groups


def branches_behind(last, text, rated):
    # The text is never behind a word that begins with it: if it stays out with the greatest worth, they all do.
    top = max([pair[1] for pair in rated])
    if ahead_of(last, (text, top)):
        return [(text, True, top)]
    branches = [(text, False, pair[1]) for pair in rated if pair[0] == text and ahead_of(last, pair)]
    for longer, group in longer_groups(text, rated).items():
        branches.extend(branches_behind(last, longer, group))
    return branches


class Wood:
    def __init__(self):
        self.marks = {}
        self.now = 0

    def mark_of(self, word):
        if word not in self.marks:
            raise Absent(f"{word!r} does not stand here")
        return self.marks[word]

    def put(self, word, count):
        # First, since a thing that is no word may be one that a dict cannot be asked for.
        if not is_word(word):
            raise NoWord(f"{word!r} is no word")
        if word in self.marks:
            raise Twice(f"{word!r} stands here already")
        self.marks[word] = (count, self.now)

    def use(self, word, times=1):
        self.marks[word] = used_mark(self.mark_of(word), self.now, times)

    def strike(self, word):
        self.mark_of(word)
        self.marks.pop(word)

    def fade(self, times=1):
        # Marks stay: each is halved when it is asked for, so that many eras cost no more than one.
        self.now += times

    def era(self):
        return self.now

    def has(self, word):
        return word in self.marks

    def worth_of(self, word):
        return worth_at(self.mark_of(word), self.now)

    def begun(self, beginning):
        return [(word, worth_at(mark, self.now)) for word, mark in self.marks.items() if word.startswith(beginning)]

    def words(self):
        return sorted(self.begun(""))

    def top_of(self, beginning):
        marks = [mark for word, mark in self.marks.items() if word.startswith(beginning)]
        return greatest_at(marks, self.now)

    def told(self, beginning, many):
        return best_of(self.begun(beginning), many)

    def cut_off(self, beginning, many):
        told = self.told(beginning, many)
        if not told:
            return []
        return branches_behind(told[-1], beginning, self.begun(beginning))
