"""What holds over the whole program: rows of many deeds on all of it, and what it hangs on."""

import ast
import os
import pathlib
import subprocess
import sys
import unittest

from plain import (BEGINNINGS, WORDS, PlainTypist, PlainWood, check_layers, check_needed, check_typist, check_wood,
                   deed_on, deed_on_layers, deed_on_typist, dice_of, is_rated, refused, three_hundred, wood_of)

from aheadword.desk import Desk
from aheadword.errors import Absent, AheadError, Beside, NoChoice, NoSign, NoText, NoWord, Twice
from aheadword.layers import Layers
from aheadword.moves import fades_needed, moves, uses_needed
from aheadword.pairs import Pairs
from aheadword.parts import PartWood
from aheadword.texts import read_wood, wood_texts
from aheadword.typists import Typist
from aheadword.woods import Wood

PACKAGE = pathlib.Path(__file__).resolve().parent.parent / "aheadword"


class Deeds(unittest.TestCase):
    """A house, two layers on it and a typist on each, and a desk that is told the first typist's deeds as rows."""

    def setUp(self):
        self.house, self.house_plain = PartWood(), PlainWood()
        self.two = [(Layers(self.house), PlainWood(), []) for times in range(2)]
        self.typists = [(Typist(layers, 3), PlainTypist(own, self.house_plain, hidden, 3))
                        for layers, own, hidden in self.two]

    def check(self, dice):
        beginnings = dice.sample(BEGINNINGS, 4) + [""]
        check_wood(self, self.house, self.house_plain, beginnings, (1, 3))
        for layers, own, hidden in self.two:
            check_layers(self, layers, own, self.house_plain, hidden, beginnings, (1, 3))
        for typist, plain in self.typists:
            check_typist(self, typist, plain)
        for word in dice.sample(WORDS, 3):
            if word in self.house_plain.worths:
                check_needed(self, self.house, self.house_plain, word[:dice.randrange(3)], word, dice.choice([1, 2, 5]))
            else:
                refused(self, Absent, uses_needed, self.house, "", word, 1)
        texts = wood_texts(self.house)
        self.assertEqual(texts, [f"{worth} {word}" for word, worth in self.house_plain.words()])
        is_rated(self, read_wood(texts).words(), self.house_plain.words())

    def test_rows_of_many_deeds(self):
        for number in range(5):
            self.setUp()
            dice = dice_of(number)
            for step in range(150):
                before = [row[0] for row in self.typists[0][0].told()]
                if dice.random() < 0.5:
                    self.assertIsNone(deed_on(dice, self.house, self.house_plain))
                for layers, own, hidden in self.two:
                    if dice.random() < 0.3:
                        self.assertIsNone(deed_on_layers(dice, layers, own, self.house_plain, hidden, WORDS))
                for typist, plain in self.typists:
                    deed_on_typist(self, dice, typist, plain)
                self.check(dice)
                behind = [row[0] for row in self.typists[0][0].told()]
                came, went, moved = moves(before, behind)
                self.assertEqual(sorted(row[0] for row in came + went), sorted(set(before) ^ set(behind)))

    def test_a_desk_tells_what_its_parts_tell(self):
        for number in range(4):
            dice, desk, house = dice_of(number), Desk(3), Wood()
            layers = Layers(house)
            typist = Typist(layers, 3)
            for step in range(300):
                word, count = dice.choice(WORDS), dice.randrange(9)
                row, deed = dice.choice([
                    (f"put {count} {word}", lambda: house.put(word, count)), (f"use {word}", lambda: house.use(word)),
                    (f"own {count} {word}", lambda: layers.put(word, count)),
                    (f"hide {word}", lambda: layers.hide(word)),
                    (f"strike {word}", lambda: house.strike(word)), (f"disown {word}", lambda: layers.strike(word)),
                    (f"show {word}", lambda: layers.show(word)), (f"key {word[0]}", lambda: typist.key(word[0])),
                    ("back", typist.back), ("clear", typist.clear), (f"take {count}", lambda: typist.take(count)),
                    ("fade 1", house.fade), ("fade own 2", lambda: typist.fade(2)), ("take 0", lambda: typist.take(0))])
                self.assertEqual(self.refusal(lambda: desk.say(row)), self.refusal(deed))
                told = [f"{place} {one[0]} {'own' if one[3] else 'house'}" for place, one in enumerate(typist.told())]
                for asked, texts in (("told", told), ("line", typist.line()), ("house", wood_texts(house))):
                    self.assertEqual(desk.say(asked), ", ".join(texts) or "none")

    def refusal(self, deed):
        try:
            deed()
        except AheadError as error:
            return type(error)
        return None

    def test_at_the_bounds(self):
        house, house_plain = wood_of([(word, 10 ** 9 - number % 3) for number, word in enumerate(three_hundred())])
        layers, own = Layers(house), PlainWood()
        for number, word in enumerate(three_hundred()):
            layers.put(word + "s", number % 2)
            own.worths[word + "s"] = number % 2
        typist, plain = Typist(layers, 1000), PlainTypist(own, house_plain, [], 1000)
        for number in (599, 300, 0, 299, 598):
            check_typist(self, typist, plain)
            self.assertEqual(typist.take(number), plain.take(number))
        for times in (1, 30, 10 ** 6):
            house.fade(times)
            house_plain.fade(times)
            typist.fade(times)
            plain.fade(times)
            check_typist(self, typist, plain)
            check_wood(self, house, house_plain, ["", "a", "ab o"], (1, 300, 1000))
            check_needed(self, house, house_plain, "", "jj tree", 1)


class Answers(unittest.TestCase):
    def test_deeds_without_an_answer_give_back_none(self):
        for wood in (Wood(), PartWood()):
            for answer in (wood.put("oak", 3), wood.use("oak"), wood.fade(), wood.strike("oak")):
                self.assertIsNone(answer)
        pairs = Pairs()
        for answer in (pairs.choose("", "oak"), pairs.fade(), pairs.let_go("oak")):
            self.assertIsNone(answer)
        layers = Layers(wood_of([("oak", 3)])[0])
        for answer in (layers.put("elm", 3), layers.use("elm"), layers.use("oak"), layers.hide("oak"),
                       layers.show("oak"), layers.fade(), layers.strike("elm")):
            self.assertIsNone(answer)
        typist = Typist(layers, 3)
        for answer in (typist.key("o"), typist.back(), typist.clear(), typist.fade(), typist.fade(2)):
            self.assertIsNone(answer)

    def test_the_refusal_named_first(self):
        wood = wood_of([("oak", 3)])[0]
        layers = Layers(wood)
        # No word, though it were a second time; absent, though it lies beside.
        for times in range(2):
            refused(self, NoWord, wood.put, "Oak", 3)
            refused(self, NoWord, layers.put, "Oak", 3)
            refused(self, NoWord, layers.hide, "Oak")
            refused(self, Absent, uses_needed, wood, "x", "elm", 1)
            refused(self, Absent, fades_needed, wood, "x", "elm", 1)
        refused(self, Beside, uses_needed, wood, "x", "oak", 1)
        refused(self, Beside, fades_needed, wood, "x", "oak", 1)

    def test_all_refusals_are_taken_by_their_base(self):
        wood = wood_of([("oak", 3)])[0]
        layers = Layers(wood)
        typist = Typist(layers, 3)
        for error, deed in ((NoWord, lambda: wood.put("", 1)), (Twice, lambda: wood.put("oak", 1)),
                            (Absent, lambda: layers.use("elm")), (NoSign, typist.back),
                            (NoChoice, lambda: typist.take(1)),
                            (Beside, lambda: uses_needed(wood, "e", "oak", 1)), (NoText, lambda: read_wood([""]))):
            with self.assertRaises(AheadError) as caught:
                deed()
            self.assertIs(type(caught.exception), error)


ROWS_IN_A_PROCESS = """
from aheadword.desk import Desk
from aheadword.layers import Layers
from aheadword.moves import moves
from aheadword.pairs import Pairs
from aheadword.woods import Wood
desk, wood, pairs, layers = Desk(5), Wood(), Pairs(), Layers(Wood())
words = ["oak", "oaks", "oak tree", "elm", "ash", "a b", "fir"]
for word in words:
    desk.say("put 3 " + word)
    wood.put(word, 3), pairs.choose("", word), layers.hide(word)
for row in ["own 2 fir", "own 2 oat", "told", "take 3", "key o", "told", "take 1", "told", "line", "house"]:
    print(desk.say(row))
print(wood.cut_off("", 2), wood.words(), pairs.behind(""), layers.hidden(), moves(words, sorted(words)))
"""


class HangsOnNothing(unittest.TestCase):
    def test_only_own_modules_are_drawn_from(self):
        files = sorted(PACKAGE.glob("*.py"))
        self.assertEqual([file.stem for file in files],
                         ["__init__", "desk", "errors", "layers", "moves", "pairs", "parts", "ranks", "texts",
                          "typists", "woods", "worths"])
        for file in files:
            for node in ast.walk(ast.parse(file.read_text())):
                self.assertNotIsInstance(node, (ast.Import, ast.Global, ast.With), file.name)
                if isinstance(node, ast.ImportFrom):
                    self.assertTrue(node.module.startswith("aheadword."), file.name)
                if isinstance(node, ast.Name):
                    self.assertNotIn(node.id, ("open", "input", "print", "eval", "exec", "hash", "id"), file.name)

    def test_no_float(self):
        for file in PACKAGE.glob("*.py"):
            for node in ast.walk(ast.parse(file.read_text())):
                self.assertNotIsInstance(node, ast.Div, file.name)
                self.assertNotIsInstance(getattr(node, "value", None), float, file.name)

    def test_the_same_in_each_process(self):
        answers = []
        for seed in ("0", "1", "2", "3"):
            setting = dict(os.environ, PYTHONHASHSEED=seed, PYTHONPATH=str(PACKAGE.parent))
            done = subprocess.run([sys.executable, "-c", ROWS_IN_A_PROCESS], env=setting, capture_output=True,
                                  text=True)
            self.assertEqual(done.returncode, 0, done.stderr)
            answers.append(done.stdout)
        self.assertEqual(answers, [answers[0]] * 4)
        self.assertIn("0 fir own, 1 oat own, 2 a b house, 3 ash house, 4 elm house", answers[0])


if __name__ == "__main__":
    unittest.main()
