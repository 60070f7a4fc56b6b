import string
import unittest

from aheadword.worths import greatest_at, is_word, used_mark, worth_at

TWELVE = "abcdefghijkl"
COUNTS = (list(range(0, 70)) + [2 ** k + d for k in range(7, 50) for d in (-1, 0, 1) if 2 ** k + d < 10 ** 15]
          + [10 ** 9, 10 ** 15 - 2, 10 ** 15 - 1])


def halved(worth, steps):
    """The document's own words: half of what it was, a rest left out, era by era."""
    for step in range(min(steps, 60)):
        worth = worth // 2
    return worth


class Words(unittest.TestCase):
    def told(self, thing, answer):
        with self.subTest(thing=thing):
            self.assertIs(is_word(thing), answer)

    def test_one_to_four_parts(self):
        for word in ("a", "z", "oak", "oak tree", "an oak tree", "an old oak tree", "a b c d"):
            self.told(word, True)

    def test_every_small_letter_is_one(self):
        for letter in string.ascii_lowercase:
            self.told(letter, True)
            self.told("oak " + letter, True)

    def test_five_parts_or_more_are_none(self):
        for text in ("a b c d e", "a b c d e f", "a b c d e f g h i j k l"):
            self.told(text, False)

    def test_one_and_twelve_letters_in_a_part(self):
        for word in (TWELVE, "a " + TWELVE, TWELVE + " a", "a b " + TWELVE, "a " + TWELVE + " b c"):
            self.told(word, True)

    def test_thirteen_letters_in_a_part_are_none(self):
        long = TWELVE + "m"
        for text in (long, "a " + long, long + " a", "a b c " + long, "a" * 24):
            self.told(text, False)

    def test_twenty_four_signs_and_twenty_five(self):
        for word in (TWELVE + " abcdefghijk", "abcdefgh abcdefg abcdefg", "abcdef abcdef abcd abcde"):
            self.assertEqual(len(word), 24)
            self.told(word, True)
            self.told(word + "x", False)
            self.told("x" + word, False)

    def test_blanks_at_the_wrong_places(self):
        for text in (" ", "  ", "   ", " oak", "oak ", " oak ", "oak  tree", "oak   tree", "an oak  tree", "a b c d ",
                     " a b c d", "a b c "):
            self.told(text, False)

    def test_text_without_signs_is_none(self):
        self.told("", False)

    def test_every_other_sign_is_none_at_any_place(self):
        for number in range(0, 400):
            sign = chr(number)
            if sign not in string.ascii_lowercase:
                for text in (sign, sign + "oak", "oak" + sign, "oak tree" + sign):
                    self.told(text, False)
                if sign != " ":
                    self.told("o" + sign + "k", False)
                    self.told("oak " + sign + " tree", False)

    def test_great_letters_figures_and_other_signs(self):
        for text in ("Oak", "oaK", "OAK", "oak Tree", "0", "7", "oak7", "oak-tree", "oak_tree", "oak.", "o'ak", "~",
                     "oak\ttree", "oak\n", "\u00e9", "\u03b1", "\uff41", "\u00df"):
            self.told(text, False)

    def test_things_that_are_no_texts(self):
        things = [None, True, False, 0, 1, -1, 7, 10 ** 20, [], (), [None], ["oak"], ("oak",), ["o", "a", "k"],
                  ("o", "a", "k"), [["oak"]], (("oak", 1),), [True], (0, 1)]
        for thing in things:
            self.told(thing, False)

    def test_what_is_asked_stays(self):
        things = ["oak", ["tree"], ("elm",), 3, True, None]
        is_word(things)
        is_word(things[1])
        self.assertEqual(things, ["oak", ["tree"], ("elm",), 3, True, None])


class Marks(unittest.TestCase):
    def whole(self, worth, wanted):
        self.assertIs(type(worth), int)
        self.assertEqual(worth, wanted)

    def test_at_its_own_era_its_count(self):
        for count in COUNTS:
            for era in (0, 1, 17, 10 ** 10):
                self.whole(worth_at((count, era), era), count)

    def test_known_halvings(self):
        for count, steps, worth in ((7, 1, 3), (7, 2, 1), (7, 3, 0), (1, 1, 0), (100, 3, 12), (1023, 9, 1), (0, 5, 0),
                                    (10 ** 15 - 1, 49, 1), (10 ** 15 - 1, 50, 0), (2 ** 49, 49, 1),
                                    (2 ** 49 - 1, 49, 0)):
            with self.subTest(count=count, steps=steps):
                self.whole(worth_at((count, 0), steps), worth)
                self.whole(worth_at((count, 41), 41 + steps), worth)

    def test_each_era_halves(self):
        for count in COUNTS:
            for steps in list(range(0, 53)):
                for era in (0, 3, 10 ** 10 - 60):
                    self.whole(worth_at((count, era), era + steps), halved(count, steps))

    def test_fifty_eras_and_very_many_leave_nothing(self):
        for count in COUNTS:
            for steps in (50, 51, 63, 64, 65, 1000, 10 ** 6, 2 ** 31, 2 ** 32 + 1, 10 ** 10):
                self.whole(worth_at((count, 0), steps), 0)

    def test_used_at_its_own_era(self):
        for count in (0, 1, 7, 10 ** 9):
            for times in (1, 2, 999, 10 ** 6):
                self.used((count, 4), 4, times, (count + times, 4))

    def test_used_at_later_eras(self):
        self.used((9, 0), 2, 5, (7, 2))
        self.used((7, 3), 4, 1, (4, 4))
        self.used((0, 0), 10 ** 10, 1, (1, 10 ** 10))
        for count in COUNTS[:-2]:
            for steps in (1, 2, 5, 49, 50, 51, 10 ** 9):
                for times in (1, 3, 10 ** 6):
                    self.used((count, 6), 6 + steps, times, (halved(count, steps) + times, 6 + steps))

    def used(self, mark, era, times, wanted):
        told = used_mark(mark, era, times)
        self.assertIs(type(told), tuple)
        self.assertEqual([type(number) for number in told], [int, int])
        self.assertEqual(told, wanted)

    def test_greatest_of_none_is_none(self):
        for era in (0, 5, 10 ** 10):
            self.assertIsNone(greatest_at([], era))

    def test_greatest_of_one(self):
        self.whole(greatest_at([(9, 1)], 1), 9)
        self.whole(greatest_at([(9, 1)], 3), 2)
        self.whole(greatest_at([(0, 0)], 0), 0)
        self.whole(greatest_at([(9, 1)], 10 ** 10), 0)

    def test_greatest_of_marks_of_several_eras(self):
        marks = [(100, 0), (60, 1), (31, 2), (16, 3)]
        for era, wanted in ((3, 16), (4, 8), (5, 4), (7, 1), (8, 0), (60, 0)):
            self.whole(greatest_at(marks, era), wanted)
            self.whole(greatest_at(marks[::-1], era), wanted)
        self.whole(greatest_at([(10 ** 15 - 1, 0), (3, 49), (1, 50)], 50), 1)
        self.whole(greatest_at([(1000, 0), (5, 9)], 9), 5)
        self.whole(greatest_at([(5, 9), (4000, 0)], 9), 7)

    def test_greatest_of_six_hundred(self):
        marks = [(number * 7919 % 1009, number % 9) for number in range(600)]
        wanted = sorted(halved(count, 9 - era) for count, era in marks)[-1]
        self.whole(greatest_at(marks, 9), wanted)

    def test_list_handed_in_stays(self):
        marks = [(5, 1), (90, 0), (5, 1), (0, 2)]
        greatest_at(marks, 4)
        self.assertEqual(marks, [(5, 1), (90, 0), (5, 1), (0, 2)])


class Halvings(unittest.TestCase):
    def test_two_steps_and_at_once(self):
        for count in COUNTS:
            for first in (0, 1, 2, 7, 30, 49, 50, 10 ** 9):
                for more in (0, 1, 3, 20, 49, 50, 10 ** 9):
                    between = worth_at((count, 0), first)
                    self.assertEqual(worth_at((between, first), first + more), worth_at((count, 0), first + more))

    def test_no_two_are_turned_about(self):
        rising = sorted(set(COUNTS))
        for steps in range(0, 53):
            behind = [worth_at((count, 0), steps) for count in rising]
            self.assertEqual(behind, sorted(behind))

    def test_greatest_halved_is_greatest_of_the_halved(self):
        lists = ([(7, 0), (6, 0)], [(7, 0), (15, 1), (2, 3)], [(10 ** 15 - 1, 3), (1, 3)], [(0, 0)],
                 [(count, count % 4) for count in COUNTS])
        for marks in lists:
            for steps in list(range(0, 53)) + [10 ** 9]:
                greatest = greatest_at(marks, 3)
                each = [(worth_at(mark, 3), 3) for mark in marks]
                self.assertEqual(halved(greatest, steps), greatest_at(marks, 3 + steps))
                self.assertEqual(worth_at((greatest, 3), 3 + steps), greatest_at(each, 3 + steps))


if __name__ == "__main__":
    unittest.main()
