"""Words, and worths kept as marks: tuples (count, era)."""

MOST_SIGNS = 24
MOST_PARTS = 4
MOST_LETTERS = 12


def is_letter(sign):
    # islower would let in small letters beyond a to z.
    return "a" <= sign <= "z"


def is_part(text):
    return 1 <= len(text) <= MOST_LETTERS and all([is_letter(sign) for sign in text])


def is_word(thing):
    if not isinstance(thing, str) or len(thing) > MOST_SIGNS:
        return False
    # Split at each blank by itself, a blank too many leaves an empty part behind.
    parts = thing.split(" ")
    return len(parts) <= MOST_PARTS and all([is_part(part) for part in parts])


def worth_at(mark, era):
    # A shift is as many halvings with the rests left out, and is quick however many eras there are.
    return mark[0] >> (era - mark[1])


def used_mark(mark, era, times):
    return (worth_at(mark, era) + times, era)


def greatest_at(marks, era):
    return max([worth_at(mark, era) for mark in marks], default=None)
