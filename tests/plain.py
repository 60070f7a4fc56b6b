"""Plain reckonings by going through all words, and checks, for the tests. Nothing here draws on the program's order."""

import random

from aheadword.moves import fades_needed, uses_needed
from aheadword.woods import Wood

NO_WORDS = ["", " ", "  ", "Oak", "oaK", "OAK", "7", "oak7", "oak-tree", "oak  tree", " oak", "oak ", "abcdefghijklm",
            "a abcdefghijklm", "a b c d e", "abcdefghijkl abcdefghijkl", "~", "oak\n", None, True, False, 0, 1,
            10 ** 20, [], ["oak"], ["o", "a", "k"], (), ("oak",), ("oak", 3), [["oak"]], [None, True, 7]]

# Shared beginnings, words that begin other words, and parts that come again at other places.
WORDS = ["a", "aa", "ab", "abc", "abcd", "abd", "a b", "a b c", "a b c d", "b", "b a", "ba", "bab", "c a b", "oak",
         "oaks", "oak tree", "oak trees", "oak tree top", "old oak", "old oak tree", "an old oak tree", "tree", "trees",
         "tree oak", "treetop", "top", "to", "two oak trees", "z", "zz", "abcdefghijkl", "abcdefghijkl abcdefghijk"]

BEGINNINGS = sorted({word[:length] for word in WORDS for length in range(len(word) + 1)}
                    | {" ", "  ", "a  ", " a", "q", "oaky", "oak tree topx", "an old oak tree ", "x" * 24})


def halved(worth, times):
    for step in range(min(times, 60)):
        worth = worth // 2
    return worth


def in_order(rows, column=1):
    """Best first: greater worth, then the lesser word."""
    rising = sorted(rows, key=lambda row: row[0])
    return sorted(rising, key=lambda row: row[column], reverse=True)


def ranked_order(rows):
    """Of tuples (word, paired, worth): greater pairs first, of like ones the better word."""
    ordered = []
    for paired in sorted({row[1] for row in rows}, reverse=True):
        ordered.extend(in_order([row for row in rows if row[1] == paired], 2))
    return ordered


def place_found(word, beginning):
    parts = word.split(" ")
    for place in range(len(parts)):
        if " ".join(parts[place:])[:len(beginning)] == beginning:
            return place
    return None


class PlainWood:
    """Each word with its worth of now, halved at once."""

    def __init__(self):
        self.worths = {}
        self.age = 0

    def fade(self, times):
        self.age += times
        self.worths = {word: halved(worth, times) for word, worth in self.worths.items()}

    def words(self):
        return sorted(self.worths.items())

    def all_told(self, beginning):
        return in_order([pair for pair in self.worths.items() if pair[0][:len(beginning)] == beginning])

    def all_found(self, beginning):
        rated = [pair for pair in self.worths.items() if place_found(pair[0], beginning) is not None]
        return [(word, worth, place_found(word, beginning)) for word, worth in in_order(rated)]


def wood_of(rated, made=Wood):
    wood, plain = made(), PlainWood()
    for word, count in rated:
        wood.put(word, count)
        plain.worths[word] = count
    return wood, plain


class PlainPairs:
    """Each chosen pair with its worth of now, halved at once."""

    def __init__(self):
        self.worths = {}

    def choose(self, before, word):
        self.worths[before, word] = self.worths.get((before, word), 0) + 1

    def fade(self, times):
        self.worths = {pair: halved(worth, times) for pair, worth in self.worths.items()}

    def let_go(self, word):
        self.worths = {pair: worth for pair, worth in self.worths.items() if pair[0] != word and pair[1] != word}

    def behind(self, before):
        return in_order([(pair[1], worth) for pair, worth in self.worths.items() if pair[0] == before and worth > 0])


def told_plainly(own, house, hidden, beginning):
    rows = [(word, worth, True) for word, worth in own.all_told(beginning) if word not in hidden]
    for word, worth in house.all_told(beginning):
        if word not in own.worths and word not in hidden:
            rows.append((word, worth, False))
    return rows


class PlainTypist:
    """A typist upon plain own words, hidden words and a plain house, which other ones may stand upon too."""

    def __init__(self, own, house, hidden, many):
        self.own, self.house, self.hidden, self.many = own, house, hidden, many
        self.pairs, self.text, self.line = PlainPairs(), "", []

    def before(self):
        return self.line[-1] if self.line else ""

    def told(self):
        rows = told_plainly(self.own, self.house, self.hidden, self.text)
        paired = {row[0]: self.pairs.worths.get((self.before(), row[0]), 0) for row in rows}
        told = []
        for own in (True, False):
            group = [(row[0], paired[row[0]], row[1]) for row in rows if row[2] is own]
            told.extend(row + (own,) for row in ranked_order(group))
        return told[:self.many]

    def take(self, number):
        word, paired, worth, own = self.told()[number]
        (self.own if own else self.house).worths[word] += 1
        self.pairs.choose(self.before(), word)
        self.line.append(word)
        self.text = ""
        return word

    def fade(self, times):
        self.own.fade(times)
        self.pairs.fade(times)


def is_told(rated, beginning, word, many):
    fitting = in_order([pair for pair in rated if pair[0][:len(beginning)] == beginning])
    return word in [pair[0] for pair in fitting[:many]]


def told_used(plain, beginning, word, many, times):
    rated = [(other, worth + times if other == word else worth) for other, worth in plain.words()]
    return is_told(rated, beginning, word, many)


def told_faded(plain, beginning, word, many, eras):
    return is_told([(other, halved(worth, eras)) for other, worth in plain.words()], beginning, word, many)


def fadings_plainly(plain, beginning, word, many):
    # Fifty halvings leave nothing of any worth, so sixty-four eras are all that can be told apart.
    for eras in range(65):
        if told_faded(plain, beginning, word, many, eras):
            return eras
    return None


def top(rows):
    return max((row[1] for row in rows), default=None)


def deed_on(dice, wood, plain, vocabulary=WORDS):
    """One deed, of one kind or another, on a wood and on its plain reckoning; the deed's answer."""
    standing = sorted(plain.worths)
    free = [word for word in vocabulary if word not in plain.worths]
    kind = dice.choice(["put", "put", "use", "use", "strike", "strike best", "fade"])
    if kind == "put" and free:
        word, count = dice.choice(free), dice.choice([0, 1, 2, 3, 3, 7, 100, 10 ** 9])
        plain.worths[word] = count
        return wood.put(word, count)
    if kind == "use" and standing:
        word, times = dice.choice(standing), dice.choice([1, 1, 2, 5, 10 ** 6])
        plain.worths[word] += times
        return wood.use(word) if times == 1 and dice.random() < 0.5 else wood.use(word, times)
    if kind.startswith("strike") and standing:
        word = dice.choice(standing) if kind == "strike" else plain.all_told("")[0][0]
        plain.worths.pop(word)
        return wood.strike(word)
    times = dice.choice([1, 1, 1, 2, 3, 31, 60])
    plain.fade(times)
    return wood.fade() if times == 1 and dice.random() < 0.5 else wood.fade(times)


def deed_on_layers(dice, layers, own, house, hidden, vocabulary):
    """One deed on the layers themselves; its answer."""
    word, kind = dice.choice(vocabulary), dice.choice(["put", "strike", "hide", "show", "use", "use", "fade"])
    if kind == "put" and word not in own.worths:
        own.worths[word] = dice.choice([0, 1, 3, 10 ** 9])
        return layers.put(word, own.worths[word])
    if kind == "strike" and word in own.worths:
        own.worths.pop(word)
        return layers.strike(word)
    if kind == "hide" and word not in hidden:
        hidden.append(word)
        return layers.hide(word)
    if kind == "show" and hidden:
        return layers.show(hidden.pop(dice.randrange(len(hidden))))
    if kind == "use" and word not in hidden and (word in own.worths or word in house.worths):
        (own if word in own.worths else house).worths[word] += 5
        return layers.use(word, 5)
    if kind == "fade":
        own.fade(1)
        return layers.fade()
    return None


def deed_on_typist(test, dice, typist, plain):
    """One deed on a typist and on its plain reckoning, and what it answers."""
    kind = dice.choice(["key", "key", "key", "key", "back", "clear", "take", "take", "take", "fade"])
    if kind == "key" and len(plain.text) < 24:
        following = [word[len(plain.text)] for word in WORDS if word.startswith(plain.text) and word != plain.text]
        sign = dice.choice(following + ["a", " "])
        plain.text += sign
        test.assertIsNone(typist.key(sign))
    elif kind == "back" and plain.text:
        plain.text = plain.text[:-1]
        test.assertIsNone(typist.back())
    elif kind == "take" and plain.told():
        number = dice.randrange(len(plain.told()))
        test.assertEqual(typist.take(number), plain.take(number))
    elif kind == "fade" and dice.random() < 0.4:
        times = dice.choice([1, 1, 2, 60])
        plain.fade(times)
        test.assertIsNone(typist.fade() if times == 1 and dice.random() < 0.5 else typist.fade(times))
    elif kind == "clear":
        plain.text = ""
        test.assertIsNone(typist.clear())


def three_hundred():
    letters = "abcdefghij"
    words = [one + other for one in letters for other in letters]
    words += [one + other + " " + more for one in letters for other in letters for more in ("oak", "tree")]
    assert len(set(words)) == 300
    return words


def dice_of(number):
    return random.Random(number)


def refused(test, error, deed, *things):
    """The deed is refused with just this class."""
    with test.assertRaises(error) as caught:
        deed(*things)
    test.assertIs(type(caught.exception), error)


def is_whole(test, number, wanted):
    test.assertIs(type(number), int)
    test.assertEqual(number, wanted)


def is_rows(test, rows, kinds, wanted):
    """A list of tuples, each of just these kinds."""
    test.assertIs(type(rows), list)
    for row in rows:
        test.assertIs(type(row), tuple)
        test.assertEqual([type(thing) for thing in row], kinds)
    test.assertEqual(rows, wanted)


def is_rated(test, rows, wanted):
    is_rows(test, rows, [str, int], wanted)


def check_needed(test, wood, plain, beginning, word, many):
    """Just so many uses, and not one fewer, and the first era of all, bring the word among those told."""
    uses = uses_needed(wood, beginning, word, many)
    test.assertIs(type(uses), int)
    test.assertGreaterEqual(uses, 0)
    test.assertTrue(told_used(plain, beginning, word, many, uses))
    test.assertFalse(uses and told_used(plain, beginning, word, many, uses - 1))
    fades, wanted = fades_needed(wood, beginning, word, many), fadings_plainly(plain, beginning, word, many)
    test.assertEqual((type(fades), fades), (type(wanted), wanted))


def check_layers(test, layers, own, house, hidden, beginnings=BEGINNINGS, manys=(1, 2, 1000)):
    is_rated(test, layers.own_words(), own.words())
    test.assertIs(type(layers.hidden()), list)
    test.assertEqual(layers.hidden(), sorted(hidden))
    for beginning in beginnings:
        wanted = told_plainly(own, house, hidden, beginning)
        for many in tuple(manys) + (len(wanted) or 1,):
            is_rows(test, layers.told(beginning, many), [str, int, bool], wanted[:many])


def check_typist(test, typist, plain):
    """A typist tells all as the plain reckoning does."""
    test.assertIs(type(typist.typed()), str)
    test.assertEqual(typist.typed(), plain.text)
    test.assertIs(type(typist.line()), list)
    test.assertEqual(typist.line(), plain.line)
    is_rows(test, typist.told(), [str, int, int, bool], plain.told())


def comes_behind(one, other):
    return one[1] < other[1] or one[1] == other[1] and one[0] > other[0]


def branch_words(branch, plain):
    text, whole, most = branch
    return [word for word in plain.worths if (word.startswith(text) if whole else word == text)]


def check_cut_off(test, wood, plain, beginning, many):
    """All that [12] says of the branches."""
    branches = wood.cut_off(beginning, many)
    fitting = plain.all_told(beginning)
    told = fitting[:many]
    test.assertIs(type(branches), list)
    covered = [word for word, worth in told]
    for branch in branches:
        test.assertIs(type(branch), tuple)
        test.assertEqual([type(thing) for thing in branch], [str, bool, int])
        test.assertTrue(branch[0].startswith(beginning))
        inside = branch_words(branch, plain)
        test.assertTrue(inside)
        test.assertEqual(branch[2], max(plain.worths[word] for word in inside))
        test.assertTrue(comes_behind((branch[0], branch[2]), told[-1]))
        covered.extend(inside)
    test.assertEqual(sorted(covered), sorted(word for word, worth in fitting))
    if len(told) < many:
        test.assertEqual(branches, [])
    return branches


def check_wood(test, wood, plain, beginnings=BEGINNINGS, manys=(1, 2, 3, 1000)):
    """A wood tells all as the plain reckoning does."""
    is_whole(test, wood.era(), plain.age)
    is_rated(test, wood.words(), plain.words())
    for beginning in beginnings:
        fitting = plain.all_told(beginning)
        test.assertEqual(wood.top_of(beginning), top(fitting))
        for many in tuple(manys) + (len(fitting) or 1,):
            is_rated(test, wood.told(beginning, many), fitting[:many])
            check_cut_off(test, wood, plain, beginning, many)
    is_rated(test, wood.words(), plain.words())
