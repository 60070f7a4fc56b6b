import unittest

from plain import (WORDS, PlainTypist, PlainWood, check_typist, deed_on, deed_on_layers, deed_on_typist, dice_of,
                   is_rated, is_rows, is_whole, refused, three_hundred, wood_of)

from aheadword.errors import NoChoice, NoSign
from aheadword.layers import Layers
from aheadword.parts import PartWood
from aheadword.typists import Typist
from aheadword.woods import Wood

LETTERS = "abcdefghijklmnopqrstuvwxyz"
# Every sign from the blank to ~ that any text may have, but for those that a key may put.
OTHER_SIGNS = [chr(number) for number in range(ord(" ") + 1, ord("~") + 1) if chr(number) not in LETTERS + "%"]
NO_SIGNS = OTHER_SIGNS + ["", "ab", "oak", "  ", "a ", " a", "aA", "a" * 24, "x" * 300]


class TypistOf(unittest.TestCase):
    """A house with five words, layers on it with two own ones, and a typist that is told at most four words."""

    many = 4

    def setUp(self):
        self.house, self.house_plain = Wood(), PlainWood()
        for word, count in (("oak", 30), ("oaks", 50), ("oak tree", 30), ("elm", 90), ("oar", 7)):
            self.house.put(word, count)
            self.house_plain.worths[word] = count
        self.layers, self.own_plain, self.hides = Layers(self.house), PlainWood(), []
        for word, count in (("oat", 3), ("elm", 2)):
            self.layers.put(word, count)
            self.own_plain.worths[word] = count
        self.typist, self.plain = self.typist_of(self.many)

    def typist_of(self, many):
        return Typist(self.layers, many), PlainTypist(self.own_plain, self.house_plain, self.hides, many)

    def type(self, text):
        for sign in text:
            self.typist.key(sign)
            self.plain.text += sign

    def take(self, number, wanted):
        word = self.typist.take(number)
        self.assertIs(type(word), str)
        self.assertEqual(word, wanted)
        self.assertEqual(self.plain.take(number), wanted)

    def choose(self, *words):
        """Each word is typed whole and taken."""
        for word in words:
            self.type(word)
            self.take([row[0] for row in self.typist.told()].index(word), word)

    def clear(self):
        self.assertIsNone(self.typist.clear())
        self.plain.text = ""

    def check(self):
        check_typist(self, self.typist, self.plain)
        is_rated(self, self.house.words(), self.house_plain.words())
        is_rated(self, self.layers.own_words(), self.own_plain.words())
        self.assertEqual(self.layers.hidden(), sorted(self.hides))

    def told(self, wanted):
        is_rows(self, self.typist.told(), [str, int, int, bool], wanted)
        self.check()


class Keys(TypistOf):
    def test_a_new_typist(self):
        self.assertEqual(self.typist.typed(), "")
        self.assertEqual(self.typist.line(), [])
        self.told([("oat", 0, 3, True), ("elm", 0, 2, True), ("oaks", 0, 50, False), ("oak", 0, 30, False)])

    def test_on_layers_without_words(self):
        typist, plain = Typist(Layers(Wood()), 5), PlainTypist(PlainWood(), PlainWood(), [], 5)
        check_typist(self, typist, plain)
        typist.key("o")
        plain.text = "o"
        check_typist(self, typist, plain)
        self.assertEqual(typist.told(), [])

    def test_every_small_letter_and_a_blank(self):
        for sign in LETTERS + " ":
            self.assertIsNone(self.typist.key(sign))
            self.assertEqual(self.typist.typed(), sign)
            self.assertIsNone(self.typist.back())
            self.assertEqual(self.typist.typed(), "")

    def test_signs_go_behind_one_another(self):
        typed = ""
        for sign in "oak  tr ":
            self.typist.key(sign)
            typed += sign
            self.assertEqual(self.typist.typed(), typed)
        self.typist.clear()
        self.typist.key(" ")
        self.assertEqual(self.typist.typed(), " ")
        self.assertEqual(self.typist.told(), [])

    def test_told_goes_with_the_typed_text(self):
        for sign, wanted in (("o", [("oat", True), ("oaks", False), ("oak", False), ("oak tree", False)]),
                             ("a", [("oat", True), ("oaks", False), ("oak", False), ("oak tree", False)]),
                             ("k", [("oaks", False), ("oak", False), ("oak tree", False)]),
                             (" ", [("oak tree", False)]), ("t", [("oak tree", False)]), ("o", [])):
            self.type(sign)
            self.assertEqual([(row[0], row[3]) for row in self.typist.told()], wanted)
            self.check()

    def test_no_sign_of_any_other_text(self):
        self.assertEqual(len(OTHER_SIGNS), 67)
        for typed in ("", "oa", "oak ", "x" * 24):
            self.clear()
            self.type(typed)
            for text in NO_SIGNS:
                with self.subTest(typed=typed, text=text):
                    refused(self, NoSign, self.typist.key, text)
            self.check()

    def test_a_twenty_fifth_sign(self):
        for text in ("abcdefghijkl abcdefghijk", "x" * 24, " " * 24):
            self.clear()
            self.type(text)
            for sign in ("a", "z", " "):
                refused(self, NoSign, self.typist.key, sign)
            self.check()
            self.assertEqual(self.typist.typed(), text)
            self.typist.back()
            self.assertIsNone(self.typist.key("y"))
            self.assertEqual(self.typist.typed(), text[:23] + "y")
            refused(self, NoSign, self.typist.key, "y")

    def test_back_takes_the_last_one_off(self):
        self.type("oak  t")
        for length in (5, 4, 3, 2, 1, 0):
            self.assertIsNone(self.typist.back())
            self.plain.text = self.plain.text[:length]
            self.check()
        for times in range(3):
            refused(self, NoSign, self.typist.back)
        self.check()

    def test_back_where_there_is_none(self):
        refused(self, NoSign, self.typist.back)
        self.type("o")
        self.typist.clear()
        refused(self, NoSign, self.typist.back)
        self.typist.key("o")
        self.typist.take(0)
        refused(self, NoSign, self.typist.back)
        self.assertEqual(self.typist.line(), ["oat"])

    def test_clear(self):
        self.assertIsNone(self.typist.clear())
        self.type("oak tr")
        self.clear()
        self.check()
        self.assertIsNone(self.typist.clear())
        self.check()

    def test_clear_leaves_line_and_pairs(self):
        self.type("oak")
        self.take(1, "oak")
        self.type("el")
        self.clear()
        self.assertEqual(self.typist.line(), ["oak"])
        self.check()

    def test_what_is_told_is_the_askers_own(self):
        self.take(0, "oat")
        self.take(3, "oak")
        for ask in (self.typist.line, self.typist.told):
            first = ask()
            kept = list(first)
            first.append("fir")
            first[0] = "fir"
            first.reverse()
            self.assertEqual(ask(), kept)
            self.check()
        told = [self.typist.line(), self.typist.told()]
        kept = [list(rows) for rows in told]
        self.take(2, "oaks")
        self.typist.key("e")
        self.typist.fade()
        self.house.fade()
        self.layers.hide("oak")
        self.assertEqual(told, kept)


class Told(TypistOf):
    many = 1000

    def test_own_ones_ahead_of_greater_pairs_and_worths(self):
        self.choose("oaks", "oar")
        self.told([("oat", 0, 3, True), ("elm", 0, 2, True), ("oaks", 0, 51, False), ("oak", 0, 30, False),
                   ("oak tree", 0, 30, False), ("oar", 0, 8, False)])
        self.choose("oaks")
        self.told([("oat", 0, 3, True), ("elm", 0, 2, True), ("oar", 1, 8, False), ("oaks", 0, 52, False),
                   ("oak", 0, 30, False), ("oak tree", 0, 30, False)])

    def test_greater_pairs_then_greater_worths_then_the_lesser_word(self):
        self.choose("oak tree", "oak tree", "oar", "oak", "oaks", "oak tree")
        # Behind "oak tree" were chosen: "oak tree", "oar".
        self.type("oa")
        self.told([("oat", 0, 3, True), ("oak tree", 1, 33, False), ("oar", 1, 8, False), ("oaks", 0, 51, False),
                   ("oak", 0, 31, False)])
        self.layers.strike("oat")
        self.own_plain.worths.pop("oat")
        self.told([("oak tree", 1, 33, False), ("oar", 1, 8, False), ("oaks", 0, 51, False), ("oak", 0, 31, False)])
        self.house.use("oar", 25)
        self.house_plain.worths["oar"] += 25
        self.house.use("oak", 20)
        self.house_plain.worths["oak"] += 20
        self.told([("oak tree", 1, 33, False), ("oar", 1, 33, False), ("oak", 0, 51, False), ("oaks", 0, 51, False)])

    def test_pairs_of_own_words(self):
        self.layers.put("ash", 2)
        self.own_plain.worths["ash"] = 2
        self.choose("elm", "ash", "elm")
        self.assertEqual(self.typist.told()[:3], [("ash", 1, 3, True), ("elm", 0, 4, True), ("oat", 0, 3, True)])
        self.check()

    def test_pairs_of_the_text_without_signs(self):
        # The line never becomes empty again, so only its first word is chosen behind the text without signs:
        # that pair counts neither behind "oar" nor for another typist.
        self.choose("oar")
        self.type("oar")
        self.told([("oar", 0, 8, False)])
        self.clear()
        self.choose("oar")
        self.type("oa")
        self.told([("oat", 0, 3, True), ("oar", 1, 9, False), ("oaks", 0, 50, False), ("oak", 0, 30, False),
                   ("oak tree", 0, 30, False)])

    def test_the_text_without_signs_is_like_no_word(self):
        house, house_plain = wood_of([(letter, 5) for letter in LETTERS])
        for first in "az":
            typist, plain = Typist(Layers(house), 1000), PlainTypist(PlainWood(), house_plain, [], 1000)
            for letter in first + LETTERS:
                number = [row[0] for row in plain.told()].index(letter)
                self.assertEqual(typist.take(number), plain.take(number))
                check_typist(self, typist, plain)

    def test_the_line_s_last_word_alone_counts(self):
        self.choose("oak tree", "oar", "oak tree", "oaks")
        # Behind "oaks" nothing was chosen, though "oar" and "oaks" were behind "oak tree".
        self.type("oa")
        self.assertEqual([row[1] for row in self.typist.told()], [0] * 5)
        self.check()

    def test_hidden_ones_never(self):
        self.type("oa")
        for word in ("oaks", "oat", "oar"):
            self.layers.hide(word)
            self.hides.append(word)
            self.check()
        self.told([("oak", 0, 30, False), ("oak tree", 0, 30, False)])
        self.layers.show("oat")
        self.hides.remove("oat")
        self.told([("oat", 0, 3, True), ("oak", 0, 30, False), ("oak tree", 0, 30, False)])

    def test_a_hidden_own_word_does_not_bring_the_house_s(self):
        self.type("elm")
        self.told([("elm", 0, 2, True)])
        self.layers.hide("elm")
        self.hides.append("elm")
        self.told([])
        self.layers.strike("elm")
        self.own_plain.worths.pop("elm")
        self.told([])
        self.layers.show("elm")
        self.hides.clear()
        self.told([("elm", 0, 90, False)])

    def test_a_hidden_word_with_a_pair(self):
        self.choose("oar", "oar")
        self.layers.hide("oar")
        self.hides.append("oar")
        self.type("oar")
        self.told([])
        self.layers.show("oar")
        self.hides.clear()
        self.told([("oar", 1, 9, False)])

    def test_pairs_outlive_striking(self):
        self.choose("oar", "oar")
        self.house.strike("oar")
        self.house_plain.worths.pop("oar")
        self.check()
        self.house.put("oar", 0)
        self.house_plain.worths["oar"] = 0
        self.type("oar")
        self.told([("oar", 1, 0, False)])
        self.layers.put("oar", 5)
        self.own_plain.worths["oar"] = 5
        self.told([("oar", 1, 5, True)])

    def test_no_pairs_by_asking(self):
        self.typist.told(), self.typist.told()
        self.typist.key("o")
        self.typist.told()
        self.typist.clear()
        self.check()


class Cut(unittest.TestCase):
    def setUp(self):
        self.house, self.house_plain, self.own_plain = Wood(), PlainWood(), PlainWood()
        for number, word in enumerate(three_hundred()[1:] + ["zz"]):
            self.house.put(word, 1000 - number)
            self.house_plain.worths[word] = 1000 - number
        self.layers = Layers(self.house)

    def typist_of(self, many):
        return Typist(self.layers, many), PlainTypist(self.own_plain, self.house_plain, [], many)

    def test_all_words_are_ranked_ahead_of_the_cut(self):
        for many in (1, 2, 3, 299, 300, 301, 1000):
            typist, plain = self.typist_of(many)
            for sign in "zz":
                typist.key(sign)
            plain.text = "zz"
            self.assertEqual(typist.take(0), plain.take(0))
            for sign in "zz":
                typist.key(sign)
            plain.text = "zz"
            self.assertEqual(typist.take(0), plain.take(0))
            # The word of the least worth has the only pair, and comes first however few are told.
            self.assertEqual(typist.told()[0][:2], ("zz", 1))
            self.assertEqual(len(typist.told()), min(many, 300))
            check_typist(self, typist, plain)

    def test_three_hundred_own_ones_too(self):
        for number, word in enumerate(three_hundred()):
            self.layers.put(word + "s", number % 9)
            self.own_plain.worths[word + "s"] = number % 9
        for many in (1, 299, 300, 301, 599, 600, 601, 1000):
            typist, plain = self.typist_of(many)
            self.assertEqual(len(typist.told()), min(many, 600))
            check_typist(self, typist, plain)
            for sign in "ab o":
                typist.key(sign)
                plain.text += sign
                check_typist(self, typist, plain)

    def test_many_of_one(self):
        layers = Layers(Wood())
        layers.house.put("oak", 3)
        layers.house.put("elm", 4)
        typist = Typist(layers, 1)
        self.assertEqual(typist.told(), [("elm", 0, 4, False)])
        refused(self, NoChoice, typist.take, 1)
        self.assertEqual(typist.take(0), "elm")
        typist.key("o")
        self.assertEqual(typist.told(), [("oak", 0, 3, False)])


class Takes(TypistOf):
    def test_each_told_number(self):
        for number in range(self.many):
            self.setUp()
            self.type("oa")
            word = self.typist.told()[number][0]
            worth = self.typist.told()[number][2]
            own = self.typist.told()[number][3]
            self.take(number, word)
            self.assertEqual(self.typist.line(), [word])
            self.assertEqual(self.typist.typed(), "")
            self.check()
            used = dict(self.layers.own_words())[word] if own else self.house.worth_of(word)
            is_whole(self, used, worth + 1)

    def test_an_own_word_that_is_the_house_s_too(self):
        self.type("e")
        self.take(0, "elm")
        is_rated(self, self.layers.own_words(), [("elm", 3), ("oat", 3)])
        is_whole(self, self.house.worth_of("elm"), 90)
        self.check()

    def test_a_line_of_several_words(self):
        taken = []
        for text, number, word in (("oak", 0, "oaks"), ("", 0, "oat"), ("elm", 0, "elm"), ("", 0, "oat"),
                                   ("oak ", 0, "oak tree"), ("oar", 0, "oar"), ("oar", 0, "oar")):
            self.type(text)
            self.take(number, word)
            taken.append(word)
            self.assertEqual(self.typist.line(), taken)
            self.check()
        self.type("oar")
        self.told([("oar", 1, 9, False)])

    def test_the_pair_is_chosen_behind_the_last_word(self):
        self.choose("oar", "oaks", "oar", "oaks", "oar")
        self.type("oaks")
        self.told([("oaks", 2, 52, False)])
        self.clear()
        self.type("oar")
        self.told([("oar", 0, 10, False)])

    def test_no_choice(self):
        for text, many in (("", 4), ("oak", 3), ("oak t", 1), ("x", 0), ("elm ", 0)):
            self.type(text)
            self.assertEqual(len(self.typist.told()), many)
            for number in (-1, -2, -4, -many, -many - 1, -10 ** 20, many, many + 1, 1000, 10 ** 10, 10 ** 20):
                if number != 0 or many == 0:
                    with self.subTest(text=text, number=number):
                        refused(self, NoChoice, self.typist.take, number)
            self.check()
            self.clear()

    def test_no_choice_behind_a_line(self):
        self.type("oar")
        self.take(0, "oar")
        self.type("oak tree")
        refused(self, NoChoice, self.typist.take, 1)
        refused(self, NoChoice, self.typist.take, -1)
        self.assertEqual(self.typist.line(), ["oar"])
        self.assertEqual(self.typist.typed(), "oak tree")
        self.check()

    def test_no_choice_where_the_told_word_was_hidden(self):
        self.type("oar")
        self.layers.hide("oar")
        self.hides.append("oar")
        refused(self, NoChoice, self.typist.take, 0)
        self.check()

    def test_fading_goes_to_own_words_and_pairs(self):
        self.choose("oar", "oar", "oar", "oar", "oat", "oar")
        self.type("oar")
        self.told([("oar", 3, 12, False)])
        self.assertIsNone(self.typist.fade())
        self.plain.fade(1)
        self.told([("oar", 1, 12, False)])
        is_rated(self, self.layers.own_words(), [("elm", 1), ("oat", 2)])
        self.assertIsNone(self.typist.fade(times=1))
        self.plain.fade(1)
        self.told([("oar", 0, 12, False)])
        self.assertIsNone(self.typist.fade(10 ** 6))
        self.plain.fade(10 ** 6)
        self.check()
        is_whole(self, self.house.era(), 0)
        self.assertEqual(self.typist.typed(), "oar")
        self.assertEqual(len(self.typist.line()), 6)

    def test_fading_with_times_and_left_out(self):
        steps, once = self.typist_of(4)[0], Typist(Layers(self.house), 4)
        once.layers.put("oat", 100)
        self.layers.use("oat", 97)
        for typist in (steps, once):
            for number in range(9):
                typist.key("o")
                typist.key("a")
                typist.key("t")
                typist.take(0)
        once.fade(2)
        steps.fade()
        steps.fade(1)
        for typist in (steps, once):
            typist.key("o")
            self.assertEqual(typist.told()[0], ("oat", 2, 27, True))

    def test_pairs_chosen_behind_a_fading(self):
        self.typist.fade(10 ** 6)
        self.plain.fade(10 ** 6)
        self.choose("oar", "oar", "oar")
        self.type("oar")
        self.told([("oar", 2, 10, False)])


class Together(TypistOf):
    def test_uses_are_seen_at_once(self):
        other, other_plain = self.typist_of(3)
        self.type("oat")
        self.take(0, "oat")
        check_typist(self, other, other_plain)
        self.assertEqual(other.told()[0], ("oat", 0, 4, True))
        other.key("o")
        other.key("a")
        other.key("r")
        self.assertEqual(other.take(0), "oar")
        self.type("oar")
        is_rows(self, self.typist.told(), [str, int, int, bool], [("oar", 0, 8, False)])

    def test_deeds_are_seen_at_once(self):
        other = Typist(Layers(self.house), 2)
        self.type("oa")
        self.house.put("oam", 200)
        self.house_plain.worths["oam"] = 200
        self.layers.put("oas", 1)
        self.own_plain.worths["oas"] = 1
        self.layers.hide("oaks")
        self.hides.append("oaks")
        self.told([("oat", 0, 3, True), ("oas", 0, 1, True), ("oam", 0, 200, False), ("oak", 0, 30, False)])
        self.assertEqual(other.told(), [("oam", 0, 200, False), ("elm", 0, 90, False)])
        self.house.strike("oam")
        self.house_plain.worths.pop("oam")
        self.house.fade()
        self.house_plain.fade(1)
        self.told([("oat", 0, 3, True), ("oas", 0, 1, True), ("oak", 0, 15, False), ("oak tree", 0, 15, False)])
        self.assertEqual(other.told(), [("elm", 0, 45, False), ("oaks", 0, 25, False)])

    def test_pairs_text_and_line_are_each_one_s_own(self):
        other, other_plain = self.typist_of(4)
        self.choose("oar", "oar")
        self.type("oar")
        self.assertEqual((other.typed(), other.line()), ("", []))
        other.key("o")
        other.key("a")
        other.key("r")
        other.take(0)
        for sign in "oar":
            other.key(sign)
        self.assertEqual(other.told(), [("oar", 0, 10, False)])
        self.assertEqual(self.typist.told(), [("oar", 1, 10, False)])
        self.assertEqual((self.typist.typed(), self.typist.line()), ("oar", ["oar", "oar"]))
        self.typist.back()
        self.assertEqual(other.typed(), "oar")
        other.clear()
        self.assertEqual(self.typist.typed(), "oa")

    def test_fading_of_one_fades_the_own_words_of_both_but_not_the_pairs(self):
        other = self.typist_of(4)[0]
        for typist in (self.typist, other):
            for times in range(3):
                for sign in "oar":
                    typist.key(sign)
                typist.take(0)
            for sign in "oa":
                typist.key(sign)
        other.fade()
        self.assertEqual(self.typist.told()[:2], [("oat", 0, 1, True), ("oar", 2, 13, False)])
        self.assertEqual(other.told()[0], ("oat", 0, 1, True))
        self.assertIn(("oar", 1, 13, False), other.told())

    def test_on_a_part_wood(self):
        house = PartWood()
        house.put("old oak", 3)
        typist = Typist(Layers(house), 2)
        typist.key("o")
        self.assertEqual(typist.told(), [("old oak", 0, 3, False)])
        self.assertEqual(typist.take(0), "old oak")
        self.assertEqual(house.found("oak", 1), [("old oak", 4, 1)])


class Rows(unittest.TestCase):
    def test_rows_of_many_deeds_of_typists_on_two_layers(self):
        for number in range(6):
            dice, house, house_plain = dice_of(number), (Wood, PartWood)[number % 2](), PlainWood()
            two = [(Layers(house), PlainWood(), []) for times in range(2)]
            typists = [(Typist(layers, many), PlainTypist(own, house_plain, hidden, many))
                       for layers, own, hidden in two for many in (3, 1, 1000)]
            for step in range(200):
                if dice.random() < 0.4:
                    self.assertIsNone(deed_on(dice, house, house_plain))
                for layers, own, hidden in two:
                    if dice.random() < 0.4:
                        self.assertIsNone(deed_on_layers(dice, layers, own, house_plain, hidden, WORDS))
                for typist, plain in typists:
                    deed_on_typist(self, dice, typist, plain)
                for typist, plain in typists:
                    check_typist(self, typist, plain)
                is_rated(self, house.words(), house_plain.words())
                for layers, own, hidden in two:
                    is_rated(self, layers.own_words(), own.words())

    def test_pairs_grow_and_fade(self):
        dice, house, house_plain, own = dice_of(77), Wood(), PlainWood(), PlainWood()
        for word in WORDS:
            house.put(word, 2)
            house_plain.worths[word] = 2
        typist, plain = Typist(Layers(house), 5), PlainTypist(own, house_plain, [], 5)
        for step in range(600):
            number = dice.randrange(len(plain.told()))
            self.assertEqual(typist.take(number), plain.take(number))
            if step % 50 == 49:
                typist.fade()
                plain.fade(1)
            check_typist(self, typist, plain)
        self.assertEqual(len(typist.line()), 600)


if __name__ == "__main__":
    unittest.main()
