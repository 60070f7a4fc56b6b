import unittest

from plain import (BEGINNINGS, NO_WORDS, WORDS, PlainWood, check_cut_off, check_wood, deed_on, dice_of, halved,
                   is_rated, is_whole, refused, three_hundred, wood_of)

from aheadword.errors import Absent, NoWord, Twice
from aheadword.parts import PartWood
from aheadword.woods import Wood

ABSENT_TEXTS = ["elm", "oa", "oaks", "oak ", " oak", "OAK", "", " ", "~!{}\\", "7 oak", "x" * 300]


class Deeds(unittest.TestCase):
    def test_a_new_wood(self):
        wood = Wood()
        is_whole(self, wood.era(), 0)
        is_rated(self, wood.words(), [])
        self.assertIs(wood.has("oak"), False)
        check_wood(self, wood, PlainWood())

    def test_put_gives_the_count_of_now(self):
        for count in (0, 1, 7, 10 ** 9):
            for eras in (0, 1, 60, 10 ** 6):
                wood = Wood()
                wood.fade(eras) if eras else None
                self.assertIsNone(wood.put("oak", count))
                is_whole(self, wood.worth_of("oak"), count)
                is_rated(self, wood.words(), [("oak", count)])
                wood.fade()
                is_whole(self, wood.worth_of("oak"), count // 2)

    def test_every_word_can_be_put_in(self):
        for word in WORDS + ["abcdefgh abcdefg abcdefg", "a b c abcdefghijkl"]:
            wood = Wood()
            self.assertIsNone(wood.put(word, 3))
            self.assertIs(wood.has(word), True)
            is_rated(self, wood.words(), [(word, 3)])

    def test_use_with_times_and_without(self):
        wood = wood_of([("oak", 5), ("elm", 5)])[0]
        self.assertIsNone(wood.use("oak"))
        is_whole(self, wood.worth_of("oak"), 6)
        self.assertIsNone(wood.use("oak", 1))
        self.assertIsNone(wood.use("oak", 10 ** 6))
        self.assertIsNone(wood.use("oak", times=2))
        is_rated(self, wood.words(), [("elm", 5), ("oak", 10 ** 6 + 9)])

    def test_use_is_of_the_era_of_now(self):
        wood = wood_of([("oak", 9)])[0]
        wood.fade(2)
        wood.use("oak", 5)
        is_whole(self, wood.worth_of("oak"), 7)
        wood.fade()
        is_whole(self, wood.worth_of("oak"), 3)
        wood.fade(10 ** 6)
        wood.use("oak")
        is_whole(self, wood.worth_of("oak"), 1)

    def test_strike_and_put_in_again(self):
        wood = wood_of([("oak", 9), ("oaks", 4)])[0]
        self.assertIsNone(wood.strike("oak"))
        self.assertIs(wood.has("oak"), False)
        self.assertIs(wood.has("oaks"), True)
        is_rated(self, wood.words(), [("oaks", 4)])
        refused(self, Absent, wood.strike, "oak")
        wood.fade()
        self.assertIsNone(wood.put("oak", 3))
        is_rated(self, wood.words(), [("oak", 3), ("oaks", 2)])
        refused(self, Twice, wood.put, "oak", 3)

    def test_fade_with_times_and_without(self):
        wood = wood_of([("oak", 100), ("elm", 1), ("ash", 0)])[0]
        self.assertIsNone(wood.fade())
        is_whole(self, wood.era(), 1)
        is_rated(self, wood.words(), [("ash", 0), ("elm", 0), ("oak", 50)])
        self.assertIsNone(wood.fade(2))
        is_whole(self, wood.era(), 3)
        self.assertIsNone(wood.fade(times=1))
        is_rated(self, wood.words(), [("ash", 0), ("elm", 0), ("oak", 6)])
        self.assertIsNone(wood.fade(10 ** 6))
        is_whole(self, wood.era(), 10 ** 6 + 4)
        is_rated(self, wood.words(), [("ash", 0), ("elm", 0), ("oak", 0)])

    def test_faded_words_still_stand(self):
        wood = wood_of([("oak", 1)])[0]
        wood.fade(100)
        self.assertIs(wood.has("oak"), True)
        is_whole(self, wood.worth_of("oak"), 0)
        refused(self, Twice, wood.put, "oak", 5)

    def test_words_rise_whatever_their_worths_and_order(self):
        wood, plain = wood_of([(word, number * 7 % 5) for number, word in enumerate(WORDS[::-1])])
        is_rated(self, wood.words(), plain.words())
        self.assertEqual([word for word, worth in wood.words()], sorted(WORDS))

    def test_has_and_worth_of(self):
        wood = wood_of([("oak", 3), ("tree", 0), ("fir", 8)])[0]
        wood.strike("fir")
        self.assertIs(wood.has("oak"), True)
        self.assertIs(wood.has("tree"), True)
        is_whole(self, wood.worth_of("tree"), 0)
        for text in ABSENT_TEXTS + ["fir"]:
            self.assertIs(wood.has(text), False)
            refused(self, Absent, wood.worth_of, text)

    def test_two_woods_are_apart(self):
        one, other = Wood(), Wood()
        one.put("oak", 3)
        one.fade(2)
        self.assertIs(other.has("oak"), False)
        is_whole(self, other.era(), 0)
        other.put("oak", 8)
        one.use("oak", 4)
        other.strike("oak")
        is_rated(self, one.words(), [("oak", 4)])
        is_rated(self, other.words(), [])


class Refusals(unittest.TestCase):
    def setUp(self):
        self.wood, self.plain = wood_of([("oak", 9), ("oak tree", 4), ("a", 0)])
        self.wood.fade()
        self.plain.fade(1)

    def tearDown(self):
        check_wood(self, self.wood, self.plain)
        self.wood.fade()
        self.plain.fade(1)
        check_wood(self, self.wood, self.plain)

    def test_no_word(self):
        for thing in NO_WORDS:
            with self.subTest(thing=thing):
                refused(self, NoWord, self.wood.put, thing, 3)

    def test_what_is_no_word_stays(self):
        thing = ["oak", ["tree"], None]
        refused(self, NoWord, self.wood.put, thing, 3)
        self.assertEqual(thing, ["oak", ["tree"], None])

    def test_twice(self):
        for word in ("oak", "oak tree", "a"):
            for count in (0, 9, 10 ** 9):
                refused(self, Twice, self.wood.put, word, count)

    def test_absent(self):
        for text in ABSENT_TEXTS:
            with self.subTest(text=text):
                refused(self, Absent, self.wood.use, text)
                refused(self, Absent, self.wood.use, text, 5)
                refused(self, Absent, self.wood.strike, text)
                refused(self, Absent, self.wood.worth_of, text)

    def test_absent_of_a_new_wood(self):
        for text in ABSENT_TEXTS + ["oak"]:
            wood = Wood()
            refused(self, Absent, wood.use, text)
            refused(self, Absent, wood.strike, text)
            refused(self, Absent, wood.worth_of, text)
            is_rated(self, wood.words(), [])


class Told(unittest.TestCase):
    rated = [("oak", 3), ("oaks", 5), ("oak tree", 3), ("oat", 3), ("elm", 9), ("o", 0)]

    def setUp(self):
        self.wood, self.plain = wood_of(self.rated)

    def test_tops(self):
        for beginning, wanted in (("", 9), ("e", 9), ("elm", 9), ("o", 5), ("oa", 5), ("oak", 5), ("oaks", 5),
                                  ("oak ", 3), ("oak tree", 3), ("oat", 3)):
            is_whole(self, self.wood.top_of(beginning), wanted)
        for beginning in ("oaky", "oak trees", "oaks ", "elms", " ", " oak", "ak", "k", "x", "oak  "):
            self.assertIsNone(self.wood.top_of(beginning))
            for many in (1, 2, 1000):
                is_rated(self, self.wood.told(beginning, many), [])
                self.assertEqual(self.wood.cut_off(beginning, many), [])

    def test_a_top_of_nothing_is_a_whole_number(self):
        self.wood.fade(60)
        is_whole(self, self.wood.top_of("o"), 0)

    def test_told(self):
        behind_oa = [("oaks", 5), ("oak", 3), ("oak tree", 3), ("oat", 3)]
        for many in (1, 2, 3, 4, 5, 1000):
            is_rated(self, self.wood.told("oa", many), behind_oa[:many])
            is_rated(self, self.wood.told("", many), ([("elm", 9)] + behind_oa + [("o", 0)])[:many])
            is_rated(self, self.wood.told("oak ", many), [("oak tree", 3)])
            is_rated(self, self.wood.told("oak", many), behind_oa[:3][:many])

    def test_worths_alike(self):
        wood, plain = wood_of([(word, 4) for word in WORDS[::-1]])
        is_rated(self, wood.told("", 1000), [(word, 4) for word in sorted(WORDS)])
        check_wood(self, wood, plain)

    def test_the_greatest_and_the_last_struck(self):
        self.wood.strike("oaks")
        is_whole(self, self.wood.top_of("oa"), 3)
        self.wood.strike("oak")
        self.wood.strike("oak tree")
        self.assertIsNone(self.wood.top_of("oak"))
        self.assertIsNone(self.wood.top_of("oak "))
        is_rated(self, self.wood.told("oak", 3), [])
        is_whole(self, self.wood.top_of("oa"), 3)
        self.wood.strike("oat")
        is_whole(self, self.wood.top_of("o"), 0)
        self.wood.strike("o")
        self.wood.strike("elm")
        self.assertIsNone(self.wood.top_of(""))
        is_rated(self, self.wood.told("", 1000), [])

    def test_each_beginning_behind_striking_one_by_one(self):
        wood, plain = wood_of([(word, number * 11 % 7) for number, word in enumerate(WORDS)])
        for word, worth in plain.all_told(""):
            wood.strike(word)
            plain.worths.pop(word)
            check_wood(self, wood, plain, manys=(2,))

    def test_what_is_told_is_the_askers_own(self):
        for ask in (self.wood.words, lambda: self.wood.told("oa", 3), lambda: self.wood.told("", 1000),
                    lambda: self.wood.cut_off("", 2)):
            first = ask()
            kept = list(first)
            first.append(("fir", 1))
            first[0] = ("fir", 2)
            first.reverse()
            self.assertEqual(ask(), kept)
            check_wood(self, self.wood, self.plain)

    def test_what_was_told_stays(self):
        told = [self.wood.words(), self.wood.told("", 1000), self.wood.cut_off("", 1)]
        kept = [list(rows) for rows in told]
        self.wood.use("oat", 50)
        self.wood.fade(2)
        self.wood.strike("elm")
        self.wood.put("fir", 3)
        self.assertEqual(told, kept)


class CutOff(unittest.TestCase):
    def test_none_where_as_many_or_fewer_are_there(self):
        wood = wood_of([("oak", 3), ("oaks", 5), ("elm", 2)])[0]
        for beginning, many in (("", 3), ("", 4), ("oa", 2), ("oa", 3), ("", 1000), ("x", 1)):
            self.assertEqual(wood.cut_off(beginning, many), [])

    def test_a_word_by_itself_beside_a_told_longer_one(self):
        wood, plain = wood_of([("oak", 3), ("oaks", 5)])
        self.assertEqual(check_cut_off(self, wood, plain, "", 1), [("oak", False, 3)])
        self.assertEqual(check_cut_off(self, wood, plain, "oak", 1), [("oak", False, 3)])

    def test_a_longer_word_beside_a_told_one_of_like_worth(self):
        wood, plain = wood_of([("oak", 3), ("oaks", 3), ("oak tree", 3)])
        check_cut_off(self, wood, plain, "", 1)
        check_cut_off(self, wood, plain, "oak", 2)

    def test_a_text_that_would_come_in_is_parted(self):
        # With the worth of both, "a" by itself would come ahead of "ab", though no word in it does.
        wood, plain = wood_of([("ab", 3), ("ac", 3), ("ad", 3), ("b", 3)])
        for many in (1, 2, 3, 4):
            check_cut_off(self, wood, plain, "", many)
            check_cut_off(self, wood, plain, "a", many)

    def test_one_branch_has_many_words(self):
        rated = [("zz", 9)] + [("oa" + letter, 3) for letter in "abcdefgh"]
        wood, plain = wood_of(rated)
        self.assertEqual(len(check_cut_off(self, wood, plain, "", 1)), 1)

    def test_all_worths_of_three_words(self):
        for words in (("a", "ab", "abc"), ("ab", "ac", "b"), ("a", "a b", "ab"), ("a", "b", "ba")):
            for number in range(27):
                counts = (number // 9, number // 3 % 3, number % 3)
                wood, plain = wood_of(list(zip(words, counts)))
                check_wood(self, wood, plain, beginnings=("", "a", "ab", "b", "a "))


class Rows(unittest.TestCase):
    def test_rows_of_many_deeds(self):
        for made in (Wood, PartWood):
            for number in range(6):
                dice, wood, plain = dice_of(number), made(), PlainWood()
                for step in range(120):
                    self.assertIsNone(deed_on(dice, wood, plain))
                    check_wood(self, wood, plain, beginnings=dice.sample(BEGINNINGS, 12) + [""], manys=(1, 3))
                check_wood(self, wood, plain)

    def test_three_hundred_words(self):
        dice, words = dice_of(300), three_hundred()
        wood, plain = wood_of([(word, dice.choice([0, 1, 5, 5, 10 ** 9, dice.randrange(40)])) for word in words])
        beginnings = ["", "a", "ab", "ab ", "ab o", "j", "jj tree"]
        for step in range(40):
            deed_on(dice, wood, plain, words)
            check_wood(self, wood, plain, beginnings, manys=(1, 10, 299, 300, 301, 1000))

    def test_to_the_last_era(self):
        wood, plain = wood_of([("oak", 10 ** 9), ("elm", 10 ** 9 - 1)])
        for step in range(10 ** 4):
            wood.fade(10 ** 6)
        is_whole(self, wood.era(), 10 ** 10)
        is_rated(self, wood.told("", 2), [("elm", 0), ("oak", 0)])
        is_whole(self, wood.top_of("oa"), 0)
        wood.use("oak", 10 ** 6)
        wood.put("ash", 10 ** 9)
        is_rated(self, wood.told("", 1000), [("ash", 10 ** 9), ("oak", 10 ** 6), ("elm", 0)])

    def test_great_worths(self):
        wood = wood_of([("oak", 10 ** 9), ("elm", 10 ** 9)])[0]
        for step in range(1000):
            wood.use("oak", 10 ** 6)
        wood.use("oak")
        is_rated(self, wood.words(), [("elm", 10 ** 9), ("oak", 2 * 10 ** 9 + 1)])
        wood.fade(30)
        is_rated(self, wood.words(), [("elm", 0), ("oak", 1)])


class Fading(unittest.TestCase):
    def test_all_at_once_and_step_by_step(self):
        for number in range(8):
            dice, once, steps = dice_of(number), Wood(), Wood()
            for word in WORDS:
                count = dice.choice([0, 1, 3, 8, dice.randrange(1000), dice.randrange(10 ** 9)])
                once.put(word, count)
                steps.put(word, count)
            for step in range(12):
                word, times = dice.choice(WORDS), dice.choice([1, 2, 5, 17, 33])
                once.fade(times)
                for era in range(times):
                    steps.fade()
                    steps.words(), steps.told("", 5), steps.top_of("oa"), steps.cut_off("a", 2), steps.worth_of("a")
                self.same(once, steps)
                once.use(word, 3)
                steps.use(word, 3)
                self.same(once, steps)

    def same(self, one, other):
        self.assertEqual(one.era(), other.era())
        self.assertEqual(one.words(), other.words())
        for beginning in BEGINNINGS:
            self.assertEqual(one.top_of(beginning), other.top_of(beginning))
            self.assertEqual(one.told(beginning, 4), other.told(beginning, 4))

    def test_no_two_words_are_turned_about(self):
        dice, wood = dice_of(4), Wood()
        for word in WORDS:
            wood.put(word, dice.randrange(dice.choice([4, 100, 10 ** 6])))
            wood.fade() if dice.random() < 0.3 else None
        before = dict(wood.words())
        for era in range(1, 25):
            wood.fade()
            behind = dict(wood.words())
            for one in WORDS:
                self.assertEqual(behind[one], halved(before[one], era))
                for other in WORDS:
                    if before[one] >= before[other]:
                        self.assertGreaterEqual(behind[one], behind[other])


if __name__ == "__main__":
    unittest.main()
