import unittest

from plain import (NO_WORDS, WORDS, PlainWood, check_wood, deed_on, dice_of, is_rated, is_whole, refused, three_hundred,
                   wood_of)

from aheadword.errors import NoText, Twice
from aheadword.parts import PartWood
from aheadword.texts import read_wood, wood_texts
from aheadword.woods import Wood

GOOD = ["3 ash", "0 elm", "999999999999999 oak", "12 oak tree", "7 oaks"]

# What stands ahead of the blank, and is no number.
NO_NUMBERS = ["", "00", "01", "007", "0" * 15, "1" + "0" * 15, "9" * 16, "1" * 300, "-1", "-0", "+1", "1.0", "1e3",
              "1_000", "0x1", "a", "one", "1a", "a1", "/", ":", "1:", "/1", "~", "1,", "True", "None"]

NO_TEXTS = ([number + " oak" for number in NO_NUMBERS]
            + ["3 " + thing for thing in NO_WORDS if isinstance(thing, str)]
            + ["", " ", "  ", "3", "3 ", " 3", "oak", " oak", "oak 3", "3oak", "3  oak", " 3 oak", "3 oak ",
               "3 oak  tree", "3-oak", "3 3 oak", "3 oak 3", "3 Oak", "3 oak,", "3\toak", "[3 oak]", "(oak, 3)",
               "x" * 300])


def texts_plainly(plain):
    return [str(worth) + " " + word for word, worth in plain.words()]


class Texts(unittest.TestCase):
    def texts(self, wood, wanted):
        told = wood_texts(wood)
        self.assertIs(type(told), list)
        for text in told:
            self.assertIs(type(text), str)
        self.assertEqual(told, wanted)

    def no_text(self, texts, row):
        kept = list(texts)
        with self.assertRaises(NoText) as caught:
            read_wood(texts)
        self.assertIs(type(caught.exception), NoText)
        is_whole(self, caught.exception.row, row)
        self.assertEqual(texts, kept)


class Written(Texts):
    def test_no_words(self):
        for wood in (Wood(), PartWood()):
            self.texts(wood, [])

    def test_rising_by_words(self):
        wood = wood_of([("oaks", 1), ("oak", 10 ** 9), ("elm", 0), ("oak tree", 3), ("a b c d", 42)])[0]
        self.texts(wood, ["42 a b c d", "0 elm", "1000000000 oak", "3 oak tree", "1 oaks"])

    def test_the_worths_of_now(self):
        wood = wood_of([("oak", 9), ("elm", 1)])[0]
        wood.fade()
        wood.put("ash", 5)
        wood.use("oak", 2)
        self.texts(wood, ["5 ash", "0 elm", "6 oak"])
        wood.strike("elm")
        wood.fade(10 ** 6)
        self.texts(wood, ["0 ash", "0 oak"])

    def test_the_wood_stays_and_the_list_is_the_askers_own(self):
        wood, plain = wood_of([("oak", 9), ("elm", 1)])
        wood.fade()
        plain.fade(1)
        told = wood_texts(wood)
        told.append("3 fir")
        told[0] = "7 elm"
        self.texts(wood, ["0 elm", "4 oak"])
        check_wood(self, wood, plain)
        kept = wood_texts(wood)
        wood.strike("elm")
        self.assertEqual(kept, ["0 elm", "4 oak"])


class Read(Texts):
    def wood(self, texts, rated):
        kept = list(texts)
        wood = read_wood(texts)
        self.assertEqual(texts, kept)
        self.assertIsInstance(wood, Wood)
        is_whole(self, wood.era(), 0)
        is_rated(self, wood.words(), rated)
        return wood

    def test_a_list_without_texts(self):
        wood = self.wood([], [])
        wood.put("oak", 3)
        self.wood([], [])

    def test_words_with_their_counts(self):
        wood = self.wood(GOOD, [("ash", 3), ("elm", 0), ("oak", 10 ** 15 - 1), ("oak tree", 12), ("oaks", 7)])
        plain = PlainWood()
        plain.worths.update([("ash", 3), ("elm", 0), ("oak", 10 ** 15 - 1), ("oak tree", 12), ("oaks", 7)])
        check_wood(self, wood, plain)
        for eras in (1, 2, 46, 1):
            wood.fade(eras)
            plain.fade(eras)
            check_wood(self, wood, plain)

    def test_one_to_fifteen_figures(self):
        for figures in range(1, 16):
            for number in (10 ** (figures - 1), int("1234567890" * 2) // 10 ** (20 - figures), 10 ** figures - 1):
                self.wood([str(number) + " oak"], [("oak", number)])
        self.wood(["0 oak"], [("oak", 0)])

    def test_every_word(self):
        for word in WORDS + ["abcdefghijkl abcdefghijk", "a b c d", "z" * 12]:
            self.wood(["5 " + word], [(word, 5)])

    def test_a_wood_like_any_other(self):
        wood = self.wood(GOOD, [("ash", 3), ("elm", 0), ("oak", 10 ** 15 - 1), ("oak tree", 12), ("oaks", 7)])
        refused(self, Twice, wood.put, "oak", 1)
        wood.use("ash", 2)
        wood.strike("oak")
        wood.put("fir", 9)
        wood.fade()
        self.texts(wood, ["2 ash", "0 elm", "4 fir", "6 oak tree", "3 oaks"])
        self.wood(GOOD, [("ash", 3), ("elm", 0), ("oak", 10 ** 15 - 1), ("oak tree", 12), ("oaks", 7)])

    def test_the_list_changed_later(self):
        texts = list(GOOD)
        wood = read_wood(texts)
        texts.clear()
        self.texts(wood, GOOD)


class Refused(Texts):
    def test_no_such_text(self):
        for text in NO_TEXTS:
            with self.subTest(text=text):
                self.no_text([text], 0)
                self.no_text([text] + GOOD, 0)
                self.no_text(["3 a", text, "4 zz"], 1)
                self.no_text(GOOD + [text], 5)

    def test_the_first_one(self):
        self.no_text(["3 a", "x", "y"], 1)
        self.no_text(["x", "3 a", "3 a"], 0)
        self.no_text(["3 b", "3 a", "x"], 1)
        self.no_text(["3 a", "3 b", "x", "3 a"], 2)

    def test_a_sign_more_or_fewer(self):
        self.assertEqual([pair[0] for pair in read_wood(GOOD).words()], ["ash", "elm", "oak", "oak tree", "oaks"])
        for row, text in enumerate(GOOD):
            blank = text.index(" ")
            for changed in (text[:blank] + text[blank + 1:], text[:blank] + " " + text[blank:], text + " ", " " + text,
                            "0" + text, text[blank:], text[:blank], text[:blank + 1], text + ",", "-" + text):
                with self.subTest(changed=changed):
                    self.no_text(GOOD[:row] + [changed] + GOOD[row + 1:], row)

    def test_a_word_twice(self):
        self.no_text(["3 oak", "3 oak"], 1)
        self.no_text(["3 oak", "4 oak"], 1)
        self.no_text(["3 a", "3 oak", "3 oak", "3 oaks"], 2)
        self.no_text(["3 a", "3 oak", "3 oaks", "3 oak"], 3)
        self.no_text(["3 a", "3 oak", "3 oaks", "3 a"], 3)

    def test_words_that_do_not_rise(self):
        self.no_text(["3 oak", "3 elm"], 1)
        self.no_text(["1 a", "2 c", "3 b", "4 d"], 2)
        self.no_text(["1 a", "2 c", "3 b", "4 a"], 2)
        self.no_text(["1 oaks", "2 oak"], 1)
        self.no_text(["1 oaks", "2 oak tree"], 1)
        self.no_text(["1 a", "9 b", "2 ab"], 2)

    def test_counts_need_not_rise(self):
        is_rated(self, read_wood(["9 a", "1 b", "5 c"]).words(), [("a", 9), ("b", 1), ("c", 5)])

    def test_each_two_texts_turned_about(self):
        for row in range(len(GOOD) - 1):
            self.no_text(GOOD[:row] + [GOOD[row + 1], GOOD[row]] + GOOD[row + 2:], row + 1)

    def test_the_row_of_a_long_list(self):
        texts = ["7 " + word for word in sorted(three_hundred())]
        for row in (0, 1, 150, 298, 299):
            self.no_text(texts[:row] + ["7  x"] + texts[row + 1:], row)
            self.no_text(texts[:row + 1] + [texts[row]] + texts[row + 1:], row + 1)


class Both(Texts):
    def test_rows_of_many_deeds(self):
        for number, made in enumerate((Wood, PartWood, Wood)):
            dice, wood, plain = dice_of(number), made(), PlainWood()
            for step in range(120):
                deed_on(dice, wood, plain)
                self.texts(wood, texts_plainly(plain))
                anew = read_wood(wood_texts(wood))
                fresh = PlainWood()
                fresh.worths.update(plain.worths)
                check_wood(self, anew, fresh, beginnings=["", "oak", "a"], manys=(1, 3))
                self.texts(anew, texts_plainly(plain))
                anew.fade(2)
                fresh.fade(2)
                self.texts(anew, texts_plainly(fresh))
                check_wood(self, wood, plain, beginnings=[""], manys=(2,))

    def test_three_hundred_words(self):
        wood, plain = wood_of([(word, number * 37 % 1001) for number, word in enumerate(three_hundred())])
        self.texts(wood, texts_plainly(plain))
        self.texts(read_wood(wood_texts(wood)), texts_plainly(plain))


if __name__ == "__main__":
    unittest.main()
