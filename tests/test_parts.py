import unittest

from plain import (BEGINNINGS, NO_WORDS, WORDS, PlainWood, check_wood, deed_on, dice_of, is_rows, is_whole, place_found,
                   refused, three_hundred, top)

from aheadword.errors import Absent, NoWord, Twice
from aheadword.parts import PartWood, found_at, tail_of
from aheadword.woods import Wood


class Tails(unittest.TestCase):
    def test_from_each_part_on(self):
        for word, tails in (("oak", ["oak"]), ("oak tree", ["oak tree", "tree"]),
                            ("an old oak tree", ["an old oak tree", "old oak tree", "oak tree", "tree"]),
                            ("a a a", ["a a a", "a a", "a"]), ("a b c d", ["a b c d", "b c d", "c d", "d"])):
            for place, tail in enumerate(tails):
                told = tail_of(word, place)
                self.assertIs(type(told), str)
                self.assertEqual(told, tail)

    def test_found_by_the_first_a_later_or_no_part(self):
        for word, beginning, place in (
                ("oak", "oak", 0), ("oak", "o", 0), ("oak tree", "oak tree", 0), ("oak tree", "t", 1),
                ("oak tree", "tree", 1), ("an old oak tree", "o", 1), ("an old oak tree", "oa", 2),
                ("an old oak tree", "tree", 3), ("an old oak tree", "a", 0), ("old oak", "ol", 0)):
            is_whole(self, found_at(word, beginning), place)
        for word, beginning in (("oak", "oaks"), ("oak", "ak"), ("oak", "k"), ("oak tree", "ree"), ("oak tree", "x"),
                                ("oak tree", "trees"), ("oak tree", "oak trees"), ("oak tree", "treeoak")):
            self.assertIsNone(found_at(word, beginning))

    def test_beginnings_with_a_blank(self):
        for word, beginning, place in (("oak tree", "oak ", 0), ("oak tree", "oak t", 0), ("old oak tree", "oak ", 1),
                                       ("an old oak tree", "old oak ", 1), ("a b a c", "a c", 2)):
            is_whole(self, found_at(word, beginning), place)
        for word, beginning in (("oak", "oak "), ("oak tree", " "), ("oak tree", " tree"), ("oak tree", "oak  "),
                                ("oak tree", "tree "), ("old oak tree", "old tree"), ("oak", " ")):
            self.assertIsNone(found_at(word, beginning))

    def test_by_the_text_without_signs(self):
        for word in WORDS:
            is_whole(self, found_at(word, ""), 0)

    def test_the_first_such_place(self):
        for word, beginning, place in (("a a a a", "a", 0), ("b a a a", "a", 1), ("b a a a", "a a", 1),
                                       ("b ab a ab", "ab", 1), ("b c a a", "a", 2), ("ba ab aba", "ab", 1),
                                       ("b ab a ab", "a ", 2), ("b ab a ab", "a", 1)):
            is_whole(self, found_at(word, beginning), place)

    def test_all_against_the_plain_reckoning(self):
        for word in WORDS:
            for beginning in BEGINNINGS:
                self.assertEqual(found_at(word, beginning), place_found(word, beginning))


def check_found(test, wood, plain, beginnings=BEGINNINGS, manys=(1, 2, 1000)):
    for beginning in beginnings:
        wanted = plain.all_found(beginning)
        test.assertEqual(wood.part_top(beginning), top(wanted))
        for many in tuple(manys) + (len(wanted) or 1,):
            is_rows(test, wood.found(beginning, many), [str, int, int], wanted[:many])


class Found(unittest.TestCase):
    def setUp(self):
        self.wood, self.plain = PartWood(), PlainWood()
        for word, count in (("oak", 3), ("old oak", 5), ("oak tree", 3), ("tree", 9), ("an oak", 3), ("elm", 0)):
            self.wood.put(word, count)
            self.plain.worths[word] = count

    def told(self, beginning, many, wanted):
        is_rows(self, self.wood.found(beginning, many), [str, int, int], wanted)

    def test_a_new_one(self):
        check_found(self, PartWood(), PlainWood())
        check_wood(self, PartWood(), PlainWood())

    def test_found_best_first_and_cut(self):
        wanted = [("old oak", 5, 1), ("an oak", 3, 1), ("oak", 3, 0), ("oak tree", 3, 0)]
        for many in (1, 2, 3, 4, 5, 1000):
            self.told("oak", many, wanted[:many])
        self.told("o", 1, [("old oak", 5, 0)])
        self.told("oak ", 9, [("oak tree", 3, 0)])
        self.told("t", 9, [("tree", 9, 0), ("oak tree", 3, 1)])
        self.told(" ", 9, [])
        self.told("x", 9, [])
        self.told("", 2, [("tree", 9, 0), ("old oak", 5, 0)])

    def test_part_tops(self):
        for beginning, wanted in (("", 9), ("oak", 5), ("o", 5), ("oak t", 3), ("a", 3), ("t", 9), ("elm", 0)):
            is_whole(self, self.wood.part_top(beginning), wanted)
        for beginning in ("x", " ", " oak", "oaks", "ak", "tree "):
            self.assertIsNone(self.wood.part_top(beginning))

    def test_behind_each_kind_of_deed(self):
        for deed, things in (("use", ("an oak", 7)), ("strike", ("tree",)), ("put", ("big oak tree", 4)), ("fade", ()),
                             ("use", ("elm",)), ("strike", ("old oak",)), ("fade", (2,)), ("put", ("old oak", 1)),
                             ("strike", ("oak tree",)), ("strike", ("big oak tree",)), ("fade", (10 ** 6,))):
            self.assertIsNone(getattr(self.wood, deed)(*things))
            if deed == "use":
                self.plain.worths[things[0]] += (things + (1,))[1]
            elif deed == "strike":
                self.plain.worths.pop(things[0])
            elif deed == "put":
                self.plain.worths[things[0]] = things[1]
            else:
                self.plain.fade((things + (1,))[0])
            check_found(self, self.wood, self.plain)
        self.assertIsNone(self.wood.part_top("tree"))
        is_whole(self, self.wood.part_top("oak"), 0)

    def test_worths_alike(self):
        wood, plain = PartWood(), PlainWood()
        for word in WORDS[::-1]:
            wood.put(word, 6)
            plain.worths[word] = 6
        check_found(self, wood, plain)
        self.assertEqual([word for word, worth, place in wood.found("", 1000)], sorted(WORDS))

    def test_it_is_a_wood(self):
        self.assertIsInstance(self.wood, Wood)
        check_wood(self, self.wood, self.plain)

    def test_told_is_not_what_is_found(self):
        self.assertEqual(self.wood.told("oak", 9), [("oak", 3), ("oak tree", 3)])
        is_whole(self, self.wood.top_of("oak"), 3)

    def test_refuses_as_a_wood(self):
        for thing in NO_WORDS:
            refused(self, NoWord, self.wood.put, thing, 3)
        refused(self, Twice, self.wood.put, "oak", 3)
        for text in ("fir", "", "OAK", "oak ", "tree oak"):
            refused(self, Absent, self.wood.use, text)
            refused(self, Absent, self.wood.strike, text)
            refused(self, Absent, self.wood.worth_of, text)
        check_wood(self, self.wood, self.plain)
        check_found(self, self.wood, self.plain)

    def test_what_is_told_is_the_askers_own(self):
        told = self.wood.found("oak", 2)
        told.append(("fir", 1, 0))
        told[0] = ("fir", 2, 0)
        self.told("oak", 2, [("old oak", 5, 1), ("an oak", 3, 1)])
        kept = self.wood.found("oak", 2)
        self.wood.strike("old oak")
        self.wood.fade()
        self.assertEqual(kept, [("old oak", 5, 1), ("an oak", 3, 1)])

    def test_two_are_apart(self):
        other = PartWood()
        other.put("old oak", 1)
        other.fade()
        check_found(self, self.wood, self.plain)
        self.assertEqual(other.found("oak", 3), [("old oak", 0, 1)])

    def test_rows_of_many_deeds(self):
        for number in range(6):
            dice, wood, plain = dice_of(50 + number), PartWood(), PlainWood()
            for step in range(120):
                self.assertIsNone(deed_on(dice, wood, plain))
                check_found(self, wood, plain, dice.sample(BEGINNINGS, 10) + ["", "oak", "t"])

    def test_three_hundred_words(self):
        dice, wood, plain = dice_of(7), PartWood(), PlainWood()
        for word in three_hundred():
            wood.put(word, 4)
            plain.worths[word] = 4
        for step in range(30):
            deed_on(dice, wood, plain, three_hundred())
            check_found(self, wood, plain, ["", "a", "oak", "t", "ab t"], (1, 100, 300, 1000))


if __name__ == "__main__":
    unittest.main()
