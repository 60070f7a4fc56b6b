import itertools
import unittest

from plain import (BEGINNINGS, WORDS, PlainWood, check_needed, deed_on, dice_of, is_rows, is_whole, refused,
                   three_hundred, wood_of)

from aheadword.errors import Absent, Beside
from aheadword.moves import fades_needed, moves, uses_needed
from aheadword.parts import PartWood
from aheadword.woods import Wood


def moves_plainly(one, other):
    came = [(word, other.index(word)) for word in other if one.count(word) == 0]
    went = [(word, one.index(word)) for word in one if other.count(word) == 0]
    moved = [(word, one.index(word), other.index(word)) for word in other if one.count(word) == 1]
    return came, went, [row for row in moved if row[1] != row[2]]


class Moves(unittest.TestCase):
    def check(self, one, other):
        handed = (list(one), list(other))
        told = moves(one, other)
        self.assertEqual((one, other), handed)
        wanted = moves_plainly(one, other)
        self.assertIs(type(told), tuple)
        self.assertEqual(len(told), 3)
        is_rows(self, told[0], [str, int], wanted[0])
        is_rows(self, told[1], [str, int], wanted[1])
        is_rows(self, told[2], [str, int, int], wanted[2])
        return told

    def test_lists_without_words(self):
        self.assertEqual(self.check([], []), ([], [], []))
        self.assertEqual(self.check([], ["oak", "elm"]), ([("oak", 0), ("elm", 1)], [], []))
        self.assertEqual(self.check(["oak", "elm"], []), ([], [("oak", 0), ("elm", 1)], []))

    def test_alike(self):
        for words in (["oak"], ["oak", "elm"], WORDS):
            self.assertEqual(self.check(words, list(words)), ([], [], []))
            self.assertEqual(self.check(words, words), ([], [], []))

    def test_turned_about(self):
        self.assertEqual(self.check(["oak", "elm"], ["elm", "oak"]), ([], [], [("elm", 1, 0), ("oak", 0, 1)]))
        self.assertEqual(self.check(["a", "b", "c"], ["c", "b", "a"]), ([], [], [("c", 2, 0), ("a", 0, 2)]))
        self.check(WORDS, WORDS[::-1])

    def test_all_three(self):
        one, other = ["oak", "elm", "ash", "fir", "yew"], ["yew", "elm", "oar", "oak", "asp", "a b"]
        self.assertEqual(self.check(one, other), ([("oar", 2), ("asp", 4), ("a b", 5)], [("ash", 2), ("fir", 3)],
                                                  [("yew", 4, 0), ("oak", 0, 3)]))
        self.assertEqual(self.check(other, one), ([("ash", 2), ("fir", 3)], [("oar", 2), ("asp", 4), ("a b", 5)],
                                                  [("oak", 3, 0), ("yew", 0, 4)]))

    def test_pushed_on_by_one(self):
        self.assertEqual(self.check(["oak", "elm", "ash"], ["fir", "oak", "elm"]),
                         ([("fir", 0)], [("ash", 2)], [("oak", 0, 1), ("elm", 1, 2)]))

    def test_no_word_in_common(self):
        self.assertEqual(self.check(["oak", "elm"], ["ash"]), ([("ash", 0)], [("oak", 0), ("elm", 1)], []))

    def test_orders_of_the_lists_are_not_those_of_words(self):
        self.assertEqual(self.check(["z", "b", "y", "c"], ["c", "x", "a", "b"]),
                         ([("x", 1), ("a", 2)], [("z", 0), ("y", 2)], [("c", 3, 0), ("b", 1, 3)]))

    def test_all_short_lists(self):
        lists = [list(words) for many in range(4) for words in itertools.permutations("abcd", many)]
        for one in lists:
            for other in lists:
                self.check(one, other)

    def test_long_lists(self):
        dice = dice_of(5)
        words = three_hundred() + [word + "s" for word in three_hundred()]
        for times in range(10):
            self.check(dice.sample(words, 400), dice.sample(words, 500))
        self.check(words, words[::-1])

    def test_of_a_wood_behind_deeds(self):
        wood, plain, dice = Wood(), PlainWood(), dice_of(6)
        former = []
        for step in range(100):
            deed_on(dice, wood, plain)
            told = [word for word, worth in wood.told("", 6)]
            self.check(former, told)
            former = told

    def test_what_is_told_is_the_askers_own(self):
        one, other = ["oak", "elm", "ash"], ["elm", "oak", "fir"]
        told = moves(one, other)
        kept = tuple(list(rows) for rows in told)
        one.clear()
        other.reverse()
        self.assertEqual(told, kept)
        for rows in told:
            rows.append("yew")
        self.assertEqual(moves(["oak", "elm", "ash"], ["elm", "oak", "fir"]), kept)


class Needed(unittest.TestCase):
    def check(self, wood, plain, beginning, word, many):
        check_needed(self, wood, plain, beginning, word, many)
        self.assertEqual((wood.words(), wood.era()), (plain.words(), plain.age))

    def check_refusals(self, error, wood, beginning, text):
        for many in (1, 2, 1000):
            refused(self, error, uses_needed, wood, beginning, text, many)
            refused(self, error, fades_needed, wood, beginning, text, many)


class Uses(Needed):
    rated = [("oak", 3), ("oaks", 5), ("oak tree", 3), ("oat", 9), ("elm", 20), ("ash", 20)]

    def setUp(self):
        self.wood, self.plain = wood_of(self.rated)

    def test_none_where_it_is_told(self):
        for many, words in ((1, ["oat"]), (2, ["oat", "oaks"]), (3, ["oat", "oaks", "oak"]), (4, ["oak tree"]),
                            (5, ["oak tree"]), (1000, ["oak", "oaks", "oak tree", "oat"])):
            for word in words:
                is_whole(self, uses_needed(self.wood, "oa", word, many), 0)

    def test_just_so_many(self):
        for beginning, word, many, wanted in (("oa", "oaks", 1, 4), ("oa", "oak", 1, 6), ("oak", "oak", 1, 2),
                                              ("oak", "oak tree", 2, 1), ("", "elm", 1, 1), ("", "ash", 1, 0),
                                              ("", "oat", 1, 12), ("", "oat", 2, 12), ("", "oat", 3, 0),
                                              ("", "oak", 5, 0), ("", "oak tree", 5, 1), ("oak ", "oak tree", 1, 0)):
            with self.subTest(beginning=beginning, word=word, many=many):
                is_whole(self, uses_needed(self.wood, beginning, word, many), wanted)
                self.check(self.wood, self.plain, beginning, word, many)

    def test_worths_alike_where_the_lesser_word_comes_ahead(self):
        wood = wood_of([("m", 7), ("z", 7), ("a", 2), ("mm", 2)])[0]
        # Ahead of "m" it has to be worth more, as a greater word, but just as much as a lesser one.
        is_whole(self, uses_needed(wood, "", "a", 1), 5)
        is_whole(self, uses_needed(wood, "", "mm", 1), 6)
        is_whole(self, uses_needed(wood, "", "mm", 2), 5)
        is_whole(self, uses_needed(wood, "", "z", 1), 1)

    def test_by_doing_it(self):
        for word, worth in self.rated:
            for many in (1, 2, 3, 4, 5, 6):
                needed = uses_needed(self.wood, "", word, many)
                for times in range(needed + 1):
                    wood = wood_of(self.rated)[0]
                    if times:
                        wood.use(word, times)
                    self.assertIs(word in [pair[0] for pair in wood.told("", many)], times == needed)

    def test_great_numbers(self):
        wood, plain = wood_of([("oak", 10 ** 9), ("elm", 0), ("fir", 10 ** 9)])
        for times in range(2000):
            wood.use("fir", 10 ** 6)
            plain.worths["fir"] += 10 ** 6
        is_whole(self, uses_needed(wood, "", "elm", 1), 3 * 10 ** 9)
        is_whole(self, uses_needed(wood, "", "elm", 2), 10 ** 9)
        is_whole(self, uses_needed(wood, "", "oak", 1), 2 * 10 ** 9 + 1)
        self.check(wood, plain, "", "elm", 1)

    def test_of_the_worths_of_now(self):
        self.wood.fade()
        self.plain.fade(1)
        is_whole(self, uses_needed(self.wood, "oa", "oak", 1), 3)
        self.wood.fade(10 ** 6)
        self.plain.fade(10 ** 6)
        is_whole(self, uses_needed(self.wood, "oa", "oak", 1), 0)
        is_whole(self, uses_needed(self.wood, "oa", "oat", 1), 1)
        is_whole(self, uses_needed(self.wood, "oa", "oat", 3), 1)
        is_whole(self, uses_needed(self.wood, "oa", "oat", 4), 0)
        self.check(self.wood, self.plain, "oa", "oat", 1)


class Fadings(Needed):
    def test_none_where_it_is_told(self):
        wood = wood_of([("oak", 3), ("oaks", 5), ("elm", 9)])[0]
        for beginning, word, many in (("", "elm", 1), ("", "oaks", 2), ("oa", "oaks", 1), ("oak", "oak", 2),
                                      ("oak", "oak", 1000)):
            is_whole(self, fades_needed(wood, beginning, word, many), 0)

    def test_some(self):
        wood, plain = wood_of([("oak", 3), ("oaks", 5), ("tree", 100), ("elm", 9)])
        # oak and oaks: 3 and 5, 1 and 2, 0 and 1, 0 and 0.
        is_whole(self, fades_needed(wood, "oa", "oak", 1), 3)
        # elm and tree: 9 and 100; 4 and 50; .. 0 and 6; 0 and 3; 0 and 1; 0 and 0.
        is_whole(self, fades_needed(wood, "", "elm", 1), 7)
        self.check(wood, plain, "oa", "oak", 1)
        self.check(wood, plain, "", "elm", 1)
        self.check(wood, plain, "", "oak", 2)

    def test_one_era_before_all_is_nothing(self):
        wood = wood_of([("oak", 2), ("oaks", 3)])[0]
        is_whole(self, fades_needed(wood, "", "oak", 1), 1)

    def test_no_number_of_them(self):
        wood, plain = wood_of([("oak", 5), ("oaks", 3), ("a", 0), ("z", 10 ** 9)])
        for beginning, word, many in (("oa", "oaks", 1), ("", "oaks", 1), ("", "oaks", 2)):
            self.assertIsNone(fades_needed(wood, beginning, word, many))
            self.check(wood, plain, beginning, word, many)
        is_whole(self, fades_needed(wood, "", "a", 1), 30)

    def test_worths_alike(self):
        wood = wood_of([("oak", 5), ("oaks", 5), ("oat", 5)])[0]
        is_whole(self, fades_needed(wood, "", "oak", 1), 0)
        self.assertIsNone(fades_needed(wood, "", "oaks", 1))
        is_whole(self, fades_needed(wood, "", "oaks", 2), 0)
        self.assertIsNone(fades_needed(wood, "", "oat", 2))

    def test_told_at_some_eras_between_alone(self):
        # m, z and a: 4, 5, 3; 2, 2, 1; 1, 1, 0; 0, 0, 0.
        wood, plain = wood_of([("m", 4), ("z", 5), ("a", 3)])
        for wanted in (1, 0, 0, None, None):
            self.assertEqual(fades_needed(wood, "", "m", 1), wanted)
            self.check(wood, plain, "", "m", 1)
            wood.fade()
            plain.fade(1)

    def test_as_many_as_can_be(self):
        wood, plain = wood_of([("oak", 0), ("oaks", 10 ** 9)])
        for times in range(10 ** 5):
            wood.use("oaks", 10 ** 6)
        plain.worths["oaks"] += 10 ** 11
        is_whole(self, fades_needed(wood, "", "oak", 1), 37)
        self.check(wood, plain, "", "oak", 1)

    def test_by_doing_it(self):
        rated = [("oak", 9), ("oaks", 40), ("elm", 33), ("ash", 7), ("tree", 41), ("z", 64)]
        for word, worth in rated:
            for many in (1, 2, 3, 4, 5):
                wood = wood_of(rated)[0]
                needed = fades_needed(wood, "", word, many)
                for era in range(10):
                    told = word in [pair[0] for pair in wood.told("", many)]
                    if needed is None or era < needed:
                        self.assertFalse(told)
                    elif era == needed:
                        self.assertTrue(told)
                    wood.fade()

    def test_behind_very_many_eras(self):
        wood, plain = wood_of([("oak", 10 ** 9), ("elm", 10 ** 9)])
        for step in range(10 ** 4):
            wood.fade(10 ** 6)
        plain.fade(10 ** 10)
        is_whole(self, fades_needed(wood, "", "elm", 1), 0)
        self.assertIsNone(fades_needed(wood, "", "oak", 1))
        is_whole(self, uses_needed(wood, "", "oak", 1), 1)
        wood.use("oak", 5)
        plain.worths["oak"] += 5
        is_whole(self, fades_needed(wood, "", "elm", 1), 3)
        is_whole(self, uses_needed(wood, "", "elm", 1), 5)
        self.check(wood, plain, "", "elm", 1)
        is_whole(self, wood.era(), 10 ** 10)


class Refusals(Needed):
    def setUp(self):
        self.wood, self.plain = wood_of([("oak", 3), ("oaks", 5), ("oak tree", 3), ("elm", 20)])

    def tearDown(self):
        self.assertEqual((self.wood.words(), self.wood.era()), (self.plain.words(), 0))

    def test_absent(self):
        for text in ("oa", "oat", "oak ", " oak", "OAK", "", " ", "~!{}\\", "7 oak", "x" * 300, "tree"):
            # Also where it does not begin so.
            for beginning in ("", "o", "oak", "e", "x", " "):
                self.check_refusals(Absent, self.wood, beginning, text)

    def test_absent_of_a_struck_word_and_a_new_wood(self):
        self.wood.strike("elm")
        self.plain.worths.pop("elm")
        for wood in (self.wood, Wood(), PartWood()):
            for beginning in ("", "e", "elm", "oak"):
                self.check_refusals(Absent, wood, beginning, "elm")

    def test_beside(self):
        for beginning, word in (("e", "oak"), ("oaks", "oak"), ("oak ", "oak"), ("oak t", "oaks"), ("oaks", "oak tree"),
                                ("tree", "oak tree"), (" ", "elm"), ("o", "elm"), ("lm", "elm"), ("elm ", "elm"),
                                ("x" * 24, "elm")):
            self.check_refusals(Beside, self.wood, beginning, word)

    def test_of_the_beginning_itself(self):
        for word in ("oak", "oaks", "oak tree", "elm"):
            is_whole(self, uses_needed(self.wood, word, word, 1000), 0)
            is_whole(self, fades_needed(self.wood, word, word, 1000), 0)


class Rows(Needed):
    def test_all_worths_of_three_words(self):
        for words in (("a", "ab", "abc"), ("ab", "ac", "b"), ("a", "a b", "ab")):
            for counts in itertools.product(range(5), repeat=3):
                wood, plain = wood_of(list(zip(words, counts)))
                for word in words:
                    for many in (1, 2, 3, 4):
                        self.check(wood, plain, "", word, many)
                        self.check(wood, plain, word[:1], word, many)

    def test_rows_of_many_deeds(self):
        for number, made in enumerate((Wood, PartWood, Wood)):
            dice, wood, plain = dice_of(number), made(), PlainWood()
            for step in range(150):
                deed_on(dice, wood, plain)
                for text in dice.sample(WORDS, 6):
                    beginning = dice.choice(["", text[:1], text, dice.choice(BEGINNINGS)])
                    for many in (1, 2, 5, 1000):
                        if text not in plain.worths:
                            self.check_refusals(Absent, wood, beginning, text)
                        elif text.startswith(beginning):
                            self.check(wood, plain, beginning, text, many)
                        else:
                            self.check_refusals(Beside, wood, beginning, text)

    def test_three_hundred_words(self):
        dice = dice_of(30)
        wood, plain = wood_of([(word, dice.choice([0, 5, dice.randrange(40), dice.randrange(10 ** 9)]))
                               for word in three_hundred()])
        for word in dice.sample(three_hundred(), 12):
            for beginning in ("", word[0], word[:2]):
                for many in (1, 10, 299, 300, 1000):
                    self.check(wood, plain, beginning, word, many)


if __name__ == "__main__":
    unittest.main()
