import unittest

from plain import (BEGINNINGS, NO_WORDS, WORDS, PlainWood, check_layers, deed_on, deed_on_layers, dice_of, halved,
                   is_rated, is_rows, is_whole, refused, three_hundred)

from aheadword.errors import Absent, NoWord, Twice
from aheadword.layers import Layers
from aheadword.parts import PartWood
from aheadword.woods import Wood

NO_TEXTS_HERE = ["fir", "oa", "oak ", " oak", "OAK", "", " ", "~!{}\\", "x" * 300]


class LayersOf(unittest.TestCase):
    """A house with four words, and layers on it that have no own words yet."""

    def setUp(self):
        self.house, self.house_plain = Wood(), PlainWood()
        for word, count in (("oak", 30), ("oaks", 50), ("oak tree", 30), ("elm", 90)):
            self.house.put(word, count)
            self.house_plain.worths[word] = count
        self.layers, self.own_plain, self.hides = Layers(self.house), PlainWood(), []

    def check(self):
        check_layers(self, self.layers, self.own_plain, self.house_plain, self.hides)
        is_rated(self, self.house.words(), self.house_plain.words())

    def told(self, beginning, many, wanted):
        is_rows(self, self.layers.told(beginning, many), [str, int, bool], wanted)


class Own(LayersOf):
    def test_new_layers(self):
        self.check()
        is_rated(self, self.layers.own_words(), [])
        self.assertEqual(self.layers.hidden(), [])
        self.told("oa", 9, [("oaks", 50, False), ("oak", 30, False), ("oak tree", 30, False)])

    def test_on_a_house_without_words(self):
        layers = Layers(Wood())
        check_layers(self, layers, PlainWood(), PlainWood(), [])

    def test_put_in_and_struck(self):
        self.assertIsNone(self.layers.put("oat", 1))
        self.assertIsNone(self.layers.put("oak", 2))
        is_rated(self, self.layers.own_words(), [("oak", 2), ("oat", 1)])
        self.told("oa", 9, [("oak", 2, True), ("oat", 1, True), ("oaks", 50, False), ("oak tree", 30, False)])
        is_rated(self, self.house.words(), self.house_plain.words())
        self.assertIsNone(self.layers.strike("oak"))
        self.told("oa", 2, [("oat", 1, True), ("oaks", 50, False)])
        self.assertIsNone(self.layers.strike("oat"))
        self.check()
        self.layers.put("oak", 7)
        self.told("oak", 1, [("oak", 7, True)])

    def test_refusals_of_put_and_strike(self):
        self.layers.put("ash", 4)
        self.own_plain.worths["ash"] = 4
        for thing in NO_WORDS:
            with self.subTest(thing=thing):
                refused(self, NoWord, self.layers.put, thing, 3)
        refused(self, Twice, self.layers.put, "ash", 4)
        for text in NO_TEXTS_HERE + ["oak", "elm"]:
            refused(self, Absent, self.layers.strike, text)
        self.check()

    def test_the_cut_in_all(self):
        for word, count in (("oat", 1), ("oak", 2)):
            self.layers.put(word, count)
        wanted = [("oak", 2, True), ("oat", 1, True), ("elm", 90, False), ("oaks", 50, False), ("oak tree", 30, False)]
        for many in (1, 2, 3, 4, 5, 6, 1000):
            self.told("", many, wanted[:many])

    def test_own_ones_ahead_whatever_their_worth(self):
        self.layers.put("oak", 0)
        self.layers.put("oaks", 0)
        self.told("oa", 9, [("oak", 0, True), ("oaks", 0, True), ("oak tree", 30, False)])
        self.layers.use("oaks")
        self.told("oa", 2, [("oaks", 1, True), ("oak", 0, True)])

    def test_what_is_told_is_the_askers_own(self):
        self.layers.put("oat", 1)
        self.layers.hide("elm")
        self.layers.hide("yew")
        for ask in (self.layers.own_words, self.layers.hidden, lambda: self.layers.told("", 3)):
            first = ask()
            kept = list(first)
            first.append("fir")
            first[0] = "fir"
            first.reverse()
            self.assertEqual(ask(), kept)
        told = [self.layers.own_words(), self.layers.hidden(), self.layers.told("", 9)]
        kept = [list(rows) for rows in told]
        self.layers.show("elm")
        self.layers.put("fir", 3)
        self.layers.strike("oat")
        self.house.strike("oak")
        self.layers.fade()
        self.assertEqual(told, kept)


class Hidden(LayersOf):
    def test_hidden_and_shown(self):
        self.assertIsNone(self.layers.hide("oaks"))
        self.hides.append("oaks")
        self.check()
        self.told("oak", 1, [("oak", 30, False)])
        self.assertIsNone(self.layers.show("oaks"))
        self.hides.clear()
        self.check()
        self.layers.hide("oaks")
        self.told("oaks", 1, [])

    def test_rising(self):
        for word in ("oaks", "elm", "oak tree", "a", "oak", "yew"):
            self.layers.hide(word)
        self.assertEqual(self.layers.hidden(), ["a", "elm", "oak", "oak tree", "oaks", "yew"])
        self.told("", 9, [])

    def test_a_word_that_stands_nowhere(self):
        self.assertIsNone(self.layers.hide("yew"))
        self.hides.append("yew")
        self.check()
        self.assertIsNone(self.layers.show("yew"))
        self.hides.clear()
        self.check()

    def test_an_own_word_hides_no_less_that_of_the_house(self):
        self.layers.put("oak", 5)
        self.layers.hide("oak")
        self.told("oak", 9, [("oaks", 50, False), ("oak tree", 30, False)])
        is_rated(self, self.layers.own_words(), [("oak", 5)])
        self.layers.show("oak")
        self.told("oak", 1, [("oak", 5, True)])

    def test_put_in_and_struck_while_hidden(self):
        self.layers.hide("oak")
        self.layers.hide("yew")
        self.assertIsNone(self.layers.put("oak", 5))
        self.assertIsNone(self.layers.put("yew", 6))
        is_rated(self, self.layers.own_words(), [("oak", 5), ("yew", 6)])
        self.told("oak", 9, [("oaks", 50, False), ("oak tree", 30, False)])
        self.told("yew", 9, [])
        refused(self, Twice, self.layers.put, "yew", 6)
        self.assertIsNone(self.layers.strike("yew"))
        self.layers.strike("oak")
        self.house.strike("oak")
        self.assertEqual(self.layers.hidden(), ["oak", "yew"])
        self.house.put("oak", 7)
        self.house.put("yew", 8)
        self.told("", 9, [("elm", 90, False), ("oaks", 50, False), ("oak tree", 30, False)])
        self.layers.show("yew")
        self.layers.show("oak")
        self.told("y", 9, [("yew", 8, False)])
        self.told("oak", 9, [("oaks", 50, False), ("oak tree", 30, False), ("oak", 7, False)])

    def test_refusals(self):
        self.layers.hide("oak")
        self.layers.hide("yew")
        self.hides.extend(["oak", "yew"])
        for thing in NO_WORDS:
            with self.subTest(thing=thing):
                refused(self, NoWord, self.layers.hide, thing)
        refused(self, Twice, self.layers.hide, "oak")
        refused(self, Twice, self.layers.hide, "yew")
        for text in NO_TEXTS_HERE + ["oaks", "elm"]:
            refused(self, Absent, self.layers.show, text)
        self.check()

    def test_what_is_no_word_stays(self):
        thing = ["oak", ["tree"], None]
        refused(self, NoWord, self.layers.hide, thing)
        refused(self, NoWord, self.layers.put, thing, 1)
        self.assertEqual(thing, ["oak", ["tree"], None])


class Uses(LayersOf):
    def test_to_the_own_word_else_to_the_house(self):
        self.layers.put("oak", 1)
        self.assertIsNone(self.layers.use("oak"))
        self.assertIsNone(self.layers.use("oak", 5))
        is_rated(self, self.layers.own_words(), [("oak", 7)])
        is_rated(self, self.house.words(), self.house_plain.words())
        self.assertIsNone(self.layers.use("elm"))
        self.assertIsNone(self.layers.use("elm", times=10 ** 6))
        is_rated(self, self.layers.own_words(), [("oak", 7)])
        is_whole(self, self.house.worth_of("elm"), 10 ** 6 + 91)
        self.layers.strike("oak")
        self.layers.use("oak")
        is_whole(self, self.house.worth_of("oak"), 31)

    def test_absent(self):
        self.layers.put("ash", 3)
        self.layers.put("fig", 3)
        self.own_plain.worths.update(ash=3, fig=3)
        self.layers.hide("oaks")
        self.layers.hide("ash")
        self.layers.hide("yew")
        self.hides.extend(["oaks", "ash", "yew"])
        for text in NO_TEXTS_HERE + ["oaks", "ash", "yew"]:
            with self.subTest(text=text):
                refused(self, Absent, self.layers.use, text)
                refused(self, Absent, self.layers.use, text, 5)
        self.check()

    def test_absent_where_own_and_house_have_it_hidden(self):
        self.layers.put("oak", 1)
        self.layers.hide("oak")
        refused(self, Absent, self.layers.use, "oak")
        is_rated(self, self.layers.own_words(), [("oak", 1)])
        is_whole(self, self.house.worth_of("oak"), 30)
        self.layers.show("oak")
        self.layers.use("oak")
        is_rated(self, self.layers.own_words(), [("oak", 2)])

    def test_fading_goes_to_the_own_words_alone(self):
        self.layers.put("oat", 9)
        self.assertIsNone(self.layers.fade())
        is_rated(self, self.layers.own_words(), [("oat", 4)])
        self.assertIsNone(self.layers.fade(2))
        self.assertIsNone(self.layers.fade(times=10 ** 6))
        is_rated(self, self.layers.own_words(), [("oat", 0)])
        is_rated(self, self.house.words(), self.house_plain.words())
        is_whole(self, self.house.era(), 0)
        self.layers.use("oat", 3)
        self.house.fade()
        self.told("oa", 9, [("oat", 3, True), ("oaks", 25, False), ("oak", 15, False), ("oak tree", 15, False)])

    def test_hidden_own_words_fade_too(self):
        self.layers.put("oat", 9)
        self.layers.hide("oat")
        self.layers.fade()
        is_rated(self, self.layers.own_words(), [("oat", 4)])

    def test_on_a_house_of_a_later_era(self):
        self.house.fade(3)
        layers = Layers(self.house)
        layers.put("oak", 8)
        layers.fade()
        self.assertEqual(layers.told("oa", 2), [("oak", 4, True), ("oaks", 6, False)])


class OneHouse(LayersOf):
    def test_deeds_on_the_house_are_seen_at_once(self):
        self.house.put("oat", 60)
        self.told("oa", 2, [("oat", 60, False), ("oaks", 50, False)])
        self.house.use("oak", 31)
        self.told("oa", 1, [("oak", 61, False)])
        self.house.strike("oak")
        self.house.fade()
        self.told("oa", 9, [("oat", 30, False), ("oaks", 25, False), ("oak tree", 15, False)])
        refused(self, Absent, self.layers.use, "oak")

    def test_two_layers(self):
        other = Layers(self.house)
        self.layers.put("oat", 4)
        self.layers.hide("elm")
        other.put("oak", 6)
        self.layers.use("oak", 100)
        self.told("", 2, [("oat", 4, True), ("oak", 130, False)])
        self.assertEqual(other.told("", 2), [("oak", 6, True), ("elm", 90, False)])
        self.assertEqual(other.hidden(), [])
        refused(self, Absent, other.use, "oat")
        other.use("oaks", 200)
        self.told("oaks", 1, [("oaks", 250, False)])
        self.layers.fade()
        is_rated(self, other.own_words(), [("oak", 6)])
        other.strike("oak")
        self.assertEqual(other.told("oak", 2), [("oaks", 250, False), ("oak", 130, False)])

    def test_on_a_part_wood(self):
        house = PartWood()
        house.put("old oak", 3)
        house.put("oak", 2)
        layers = Layers(house)
        self.assertEqual(layers.told("oak", 5), [("oak", 2, False)])
        layers.use("old oak")
        self.assertEqual(house.found("oak", 1), [("old oak", 4, 1)])


class Rows(unittest.TestCase):
    def test_rows_of_many_deeds_of_two_layers_on_one_house(self):
        for number in range(6):
            dice, house, house_plain = dice_of(number), (Wood, PartWood)[number % 2](), PlainWood()
            two = [(Layers(house), PlainWood(), []) for times in range(2)]
            for step in range(150):
                self.assertIsNone(deed_on(dice, house, house_plain))
                for layers, own, hidden in two:
                    self.assertIsNone(deed_on_layers(dice, layers, own, house_plain, hidden, WORDS))
                for layers, own, hidden in two:
                    check_layers(self, layers, own, house_plain, hidden, dice.sample(BEGINNINGS, 8) + ["", "oak"])
                is_rated(self, house.words(), house_plain.words())

    def test_three_hundred_of_the_house_and_three_hundred_own(self):
        dice, house, house_plain, own, hidden = dice_of(1), Wood(), PlainWood(), PlainWood(), []
        layers, words = Layers(house), three_hundred()
        others = [word.replace("tree", "elm") for word in words]
        for number, word in enumerate(words):
            house.put(word, number % 7)
            house_plain.worths[word] = number % 7
        for number, word in enumerate(others):
            layers.put(word, number % 5)
            own.worths[word] = number % 5
        for step in range(30):
            deed_on_layers(dice, layers, own, house_plain, hidden, others)
            check_layers(self, layers, own, house_plain, hidden, ["", "a", "ab", "ab "], (1, 300, 301, 600, 1000))

    def test_own_words_faded_at_once_and_step_by_step(self):
        once, steps, dice = Layers(Wood()), Layers(Wood()), dice_of(3)
        counts = {word: dice.randrange(10 ** 4) for word in WORDS}
        for word, count in counts.items():
            once.put(word, count)
            steps.put(word, count)
        for era in range(9):
            steps.fade()
            steps.told("", 3)
        once.fade(9)
        self.assertEqual(once.own_words(), steps.own_words())
        self.assertEqual(once.told("", 1000), steps.told("", 1000))
        is_rated(self, once.own_words(), sorted((word, halved(count, 9)) for word, count in counts.items()))


if __name__ == "__main__":
    unittest.main()
