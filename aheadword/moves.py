"""What moves from one list of words to another, and how few uses or fadings bring a word among those told."""

from aheadword.errors import Absent, Beside
from aheadword.ranks import ahead_of, best_of, rank_of
from aheadword.worths import worth_at


def places_of(words):
    places = {}
    for place, word in enumerate(words):
        places[word] = place
    return places


def placed_outside(words, places):
    return [(word, place) for place, word in enumerate(words) if word not in places]


def moves(one, other):
    former = places_of(one)
    came = placed_outside(other, former)
    went = placed_outside(one, places_of(other))
    moved = [(word, former[word], place) for place, word in enumerate(other) if former.get(word, place) != place]
    return (came, went, moved)


def rated_around(wood, beginning, word):
    if not wood.has(word):
        raise Absent(f"{word!r} does not stand here")
    if not word.startswith(beginning):
        raise Beside(f"{word!r} does not begin with {beginning!r}")
    return wood.begun(beginning)


def worth_to_pass(word, last):
    return last[1] if ahead_of((word, last[1]), last) else last[1] + 1


def uses_needed(wood, beginning, word, many):
    others = [pair for pair in rated_around(wood, beginning, word) if pair[0] != word]
    best = best_of(others, many)
    if len(best) < many:
        return 0
    return max(0, worth_to_pass(word, best[-1]) - wood.worth_of(word))


def faded(rated, eras):
    return [(word, worth_at((worth, 0), eras)) for word, worth in rated]


def fades_needed(wood, beginning, word, many):
    rated = rated_around(wood, beginning, word)
    # Each era is tried: fading brings words up beside one another, so a word told at one era need not be at the next.
    # When the greatest worth has become 0, all are 0, and stay so.
    for eras in range(wood.top_of(beginning).bit_length() + 1):
        if rank_of(faded(rated, eras), word) < many:
            return eras
    return None
