"""The order of rated words: tuples (word, worth)."""


def rank_key(pair):
    # The one place that knows the order: greater worth first, then the lesser word.
    return (-pair[1], pair[0])


def ahead_of(one, other):
    return rank_key(one) < rank_key(other)


def best_of(rated, many):
    return sorted(rated, key=rank_key)[:many]


def rank_of(rated, word):
    for pair in rated:
        if pair[0] == word:
            return len([other for other in rated if ahead_of(other, pair)])
    return None
