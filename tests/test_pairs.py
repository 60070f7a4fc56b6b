import unittest

from plain import (BEGINNINGS, WORDS, PlainPairs, PlainWood, deed_on, dice_of, is_rated, is_rows, is_whole,
                   ranked_order, three_hundred)

from aheadword.pairs import Pairs, ranked
from aheadword.parts import PartWood
from aheadword.woods import Wood

FEW = ["oak", "oaks", "oak tree", "elm", "a", "abcdefghijkl abcdefghijk"]


def check_pairs(test, pairs, plain, words=FEW):
    for before in words + [""]:
        is_rated(test, pairs.behind(before), plain.behind(before))
        for word in words:
            is_whole(test, pairs.worth_of(before, word), plain.worths.get((before, word), 0))


def deed_on_pairs(dice, pairs, plain, words=FEW):
    kind = dice.choice(["choose"] * 12 + ["fade", "let_go"])
    before, word = dice.choice(words + [""]), dice.choice(words)
    if kind == "choose":
        plain.choose(before, word)
        return pairs.choose(before, word)
    if kind == "let_go":
        plain.let_go(word)
        return pairs.let_go(word)
    times = dice.choice([1, 1, 1, 2, 50])
    plain.fade(times)
    return pairs.fade() if times == 1 else pairs.fade(times)


class Choosing(unittest.TestCase):
    def test_new_pairs(self):
        check_pairs(self, Pairs(), PlainPairs())

    def test_chosen_once_and_several_times(self):
        for before in ("elm", "", "oak"):
            pairs = Pairs()
            for times in (1, 2, 3):
                self.assertIsNone(pairs.choose(before, "oak"))
                is_whole(self, pairs.worth_of(before, "oak"), times)
                is_rated(self, pairs.behind(before), [("oak", times)])

    def test_one_pair_is_not_the_other(self):
        pairs = Pairs()
        pairs.choose("elm", "oak")
        for before, word in (("oak", "elm"), ("elm", "elm"), ("oak", "oak"), ("", "oak"), ("", "elm"), ("elm", "oaks"),
                             ("el", "oak"), ("elm", "oa")):
            is_whole(self, pairs.worth_of(before, word), 0)
        for before in ("oak", "", "el", "elms"):
            is_rated(self, pairs.behind(before), [])

    def test_words_with_blanks_are_kept_apart(self):
        pairs = Pairs()
        pairs.choose("oak tree", "top")
        is_whole(self, pairs.worth_of("oak", "tree top"), 0)
        is_rated(self, pairs.behind("oak tree"), [("top", 1)])
        is_rated(self, pairs.behind("oak"), [])

    def test_fading_and_chosen_on(self):
        pairs = Pairs()
        for step in range(9):
            pairs.choose("elm", "oak")
        self.assertIsNone(pairs.fade())
        is_whole(self, pairs.worth_of("elm", "oak"), 4)
        pairs.choose("elm", "oak")
        is_whole(self, pairs.worth_of("elm", "oak"), 5)
        self.assertIsNone(pairs.fade(2))
        is_whole(self, pairs.worth_of("elm", "oak"), 1)
        is_rated(self, pairs.behind("elm"), [("oak", 1)])
        self.assertIsNone(pairs.fade(times=1))
        is_whole(self, pairs.worth_of("elm", "oak"), 0)
        is_rated(self, pairs.behind("elm"), [])
        pairs.choose("elm", "oak")
        is_rated(self, pairs.behind("elm"), [("oak", 1)])

    def test_fading_very_often(self):
        pairs = Pairs()
        pairs.choose("", "oak")
        for step in range(10 ** 4):
            pairs.fade(10 ** 6)
        is_whole(self, pairs.worth_of("", "oak"), 0)
        pairs.choose("", "oak")
        pairs.choose("", "elm")
        pairs.choose("", "elm")
        is_rated(self, pairs.behind(""), [("elm", 2), ("oak", 1)])

    def test_first_chosen_at_a_later_era(self):
        pairs = Pairs()
        pairs.fade(7)
        pairs.choose("elm", "oak")
        is_whole(self, pairs.worth_of("elm", "oak"), 1)
        pairs.choose("elm", "oak")
        pairs.fade()
        is_whole(self, pairs.worth_of("elm", "oak"), 1)

    def test_let_go_on_either_side(self):
        pairs = Pairs()
        for before, word in (("oak", "elm"), ("elm", "oak"), ("oak", "oak"), ("", "oak"), ("", "elm"), ("elm", "oaks"),
                             ("oaks", "oak tree")):
            pairs.choose(before, word)
        self.assertIsNone(pairs.let_go("oak"))
        for before in ("oak", "oak tree"):
            is_rated(self, pairs.behind(before), [])
        is_rated(self, pairs.behind(""), [("elm", 1)])
        is_rated(self, pairs.behind("elm"), [("oaks", 1)])
        is_rated(self, pairs.behind("oaks"), [("oak tree", 1)])
        is_whole(self, pairs.worth_of("", "oak"), 0)
        is_whole(self, pairs.worth_of("oak", "oak"), 0)
        pairs.choose("", "oak")
        is_whole(self, pairs.worth_of("", "oak"), 1)

    def test_let_go_of_a_word_in_no_pair(self):
        pairs, plain = Pairs(), PlainPairs()
        self.assertIsNone(pairs.let_go("oak"))
        pairs.choose("elm", "oaks")
        plain.choose("elm", "oaks")
        for word in ("oak", "a", "elms", "oak"):
            self.assertIsNone(pairs.let_go(word))
        check_pairs(self, pairs, plain)

    def test_behind_is_best_first_without_nothings(self):
        pairs = Pairs()
        for word, times in (("oak", 1), ("tree", 4), ("elm", 4), ("oaks", 6), ("a", 2), ("ash", 4)):
            for step in range(times):
                pairs.choose("top", word)
        is_rated(self, pairs.behind("top"), [("oaks", 6), ("ash", 4), ("elm", 4), ("tree", 4), ("a", 2), ("oak", 1)])
        pairs.fade()
        is_rated(self, pairs.behind("top"), [("oaks", 3), ("ash", 2), ("elm", 2), ("tree", 2), ("a", 1)])

    def test_two_are_apart(self):
        one, other = Pairs(), Pairs()
        one.choose("", "oak")
        is_whole(self, other.worth_of("", "oak"), 0)
        other.choose("", "oak")
        one.fade()
        is_whole(self, other.worth_of("", "oak"), 1)
        other.let_go("oak")
        one.choose("", "oak")
        is_whole(self, one.worth_of("", "oak"), 1)

    def test_what_is_told_is_the_askers_own(self):
        pairs = Pairs()
        pairs.choose("", "oak")
        pairs.choose("", "elm")
        told = pairs.behind("")
        told.append(("ash", 7))
        told[0] = ("fir", 1)
        is_rated(self, pairs.behind(""), [("elm", 1), ("oak", 1)])
        kept = pairs.behind("")
        pairs.choose("", "oak")
        pairs.let_go("elm")
        is_rated(self, kept, [("elm", 1), ("oak", 1)])

    def test_asking_makes_no_pair(self):
        pairs = Pairs()
        pairs.worth_of("oak", "elm"), pairs.behind("oak")
        pairs.fade(3)
        is_whole(self, pairs.worth_of("oak", "elm"), 0)
        is_rated(self, pairs.behind("oak"), [])

    def test_rows_of_many_deeds(self):
        for number in range(6):
            dice, pairs, plain = dice_of(number), Pairs(), PlainPairs()
            for step in range(300):
                self.assertIsNone(deed_on_pairs(dice, pairs, plain))
                check_pairs(self, pairs, plain)

    def test_all_at_once_and_step_by_step(self):
        for number in range(6):
            dice, once, steps = dice_of(number), Pairs(), Pairs()
            for round in range(10):
                for step in range(40):
                    before, word = dice.choice(FEW + [""]), dice.choice(FEW)
                    once.choose(before, word)
                    steps.choose(before, word)
                times = dice.choice([1, 2, 3, 60])
                once.fade(times)
                for era in range(times):
                    steps.fade()
                    steps.behind("oak"), steps.worth_of("", "oak")
                for before in FEW + [""]:
                    self.assertEqual(once.behind(before), steps.behind(before))


class Ranked(unittest.TestCase):
    def wood_and_pairs(self, made):
        wood, pairs = made(), Pairs()
        for word, count in (("oak", 3), ("oaks", 5), ("oak tree", 3), ("oat", 9), ("elm", 20)):
            wood.put(word, count)
        for before, word in (("elm", "oak tree"), ("elm", "oak tree"), ("elm", "oak"), ("elm", "oaks"), ("", "oat"),
                             ("elm", "fir"), ("oak", "elm")):
            pairs.choose(before, word)
        return wood, pairs

    def told(self, rows, wanted):
        is_rows(self, rows, [str, int, int], wanted)

    def test_greater_pairs_first(self):
        for made in (Wood, PartWood):
            wood, pairs = self.wood_and_pairs(made)
            wanted = [("oak tree", 2, 3), ("oaks", 1, 5), ("oak", 1, 3), ("oat", 0, 9)]
            for many in (1, 2, 3, 4, 5, 1000):
                self.told(ranked(wood, pairs, "elm", "oa", many), wanted[:many])
            self.told(ranked(wood, pairs, "", "o", 2), [("oat", 1, 9), ("oaks", 0, 5)])
            self.told(ranked(wood, pairs, "elm", "", 1000), wanted[:3] + [("elm", 0, 20), ("oat", 0, 9)])
            self.told(ranked(wood, pairs, "elm", "oak ", 3), [("oak tree", 2, 3)])
            self.told(ranked(wood, pairs, "elm", "f", 3), [])
            self.told(ranked(wood, pairs, "elm", "tree", 3), [])

    def test_ahead_stands_a_word_behind_which_nothing_was_chosen(self):
        wood, pairs = self.wood_and_pairs(Wood)
        for before in ("oat", "fir", "oak tree"):
            self.told(ranked(wood, pairs, before, "oa", 9),
                      [("oat", 0, 9), ("oaks", 0, 5), ("oak", 0, 3), ("oak tree", 0, 3)])

    def test_of_no_words(self):
        pairs = Pairs()
        pairs.choose("", "oak")
        self.told(ranked(Wood(), pairs, "", "", 5), [])

    def test_all_alike(self):
        wood, pairs = Wood(), Pairs()
        for word in WORDS[::-1]:
            wood.put(word, 2)
            pairs.choose("oak", word)
        self.told(ranked(wood, pairs, "oak", "", 1000), [(word, 1, 2) for word in sorted(WORDS)])

    def test_both_fade_by_themselves(self):
        wood, pairs = self.wood_and_pairs(Wood)
        wood.fade()
        self.told(ranked(wood, pairs, "elm", "oak", 2), [("oak tree", 2, 1), ("oaks", 1, 2)])
        pairs.fade()
        self.told(ranked(wood, pairs, "elm", "oak", 5), [("oak tree", 1, 1), ("oaks", 0, 2), ("oak", 0, 1)])
        pairs.fade()
        self.told(ranked(wood, pairs, "elm", "oak", 5), [("oaks", 0, 2), ("oak", 0, 1), ("oak tree", 0, 1)])

    def test_striking_lets_no_pair_go(self):
        wood, pairs = self.wood_and_pairs(Wood)
        wood.strike("oak tree")
        self.told(ranked(wood, pairs, "elm", "oak", 1), [("oaks", 1, 5)])
        is_whole(self, pairs.worth_of("elm", "oak tree"), 2)
        wood.put("oak tree", 0)
        self.told(ranked(wood, pairs, "elm", "oak", 1), [("oak tree", 2, 0)])

    def test_asking_changes_nothing(self):
        wood, pairs = self.wood_and_pairs(Wood)
        words, behind = wood.words(), pairs.behind("elm")
        told = ranked(wood, pairs, "elm", "oa", 3)
        kept = list(told)
        told.clear()
        self.assertEqual((wood.words(), pairs.behind("elm"), wood.era()), (words, behind, 0))
        self.told(ranked(wood, pairs, "elm", "oa", 3), kept)

    def reckoned(self, plain, worths, before, beginning):
        return ranked_order([(word, worths.worths.get((before, word), 0), worth)
                             for word, worth in plain.all_told(beginning)])

    def test_rows_of_many_deeds(self):
        for number, made in enumerate((Wood, PartWood, Wood, PartWood)):
            dice, wood, plain, pairs, worths = dice_of(number), made(), PlainWood(), Pairs(), PlainPairs()
            for step in range(150):
                deed_on(dice, wood, plain)
                for more in range(4):
                    deed_on_pairs(dice, pairs, worths, WORDS)
                for before in ["", dice.choice(WORDS)]:
                    for beginning in ["", "oak"] + dice.sample(BEGINNINGS, 8):
                        wanted = self.reckoned(plain, worths, before, beginning)
                        for many in (1, 3, len(wanted) or 1, 1000):
                            self.told(ranked(wood, pairs, before, beginning, many), wanted[:many])

    def test_three_hundred_words(self):
        dice, wood, plain, pairs, worths = dice_of(9), Wood(), PlainWood(), Pairs(), PlainPairs()
        for word in three_hundred():
            wood.put(word, 5)
            plain.worths[word] = 5
        for step in range(900):
            word = dice.choice(three_hundred()[:200])
            pairs.choose("oak", word)
            worths.choose("oak", word)
        for beginning in ("", "a", "ab "):
            wanted = self.reckoned(plain, worths, "oak", beginning)
            for many in (1, 299, 300, 1000):
                self.told(ranked(wood, pairs, "oak", beginning, many), wanted[:many])


if __name__ == "__main__":
    unittest.main()
