import unittest

from plain import NO_WORDS, WORDS, PlainTypist, PlainWood, dice_of, refused

from aheadword.desk import Desk
from aheadword.errors import AheadError, Absent, NoChoice, NoRow, NoSign, NoWord, Twice

LETTERS = "abcdefghijklmnopqrstuvwxyz"
OTHER_SIGNS = [chr(number) for number in range(ord(" ") + 1, ord("~") + 1) if chr(number) not in LETTERS + "%"]
NO_WORD_TEXTS = [thing for thing in NO_WORDS if isinstance(thing, str)]
ABSENT_TEXTS = NO_WORD_TEXTS + ["fir", "oa", "oak trees", "none", "own", "house", "3 oak", "x" * 300]

# A house, own words, hidden ones, a line, pairs and a typed text.
ROWS = ["put 30 oak", "put 50 oaks", "put 30 oak tree", "put 90 elm", "put 7 oar", "own 3 oat", "own 2 elm",
        "hide oaks", "hide yew", "key o", "key a", "key r", "take 0", "key o", "key a", "key r", "take 0", "fade 1",
        "key o", "key a"]

# Said one behind the other, these bring all to light that a desk keeps.
PROBES = ["told", "line", "house", "take 1", "told", "line", "fade own 1", "told", "fade 1", "house", "key o", "told",
          "show oaks", "show yew", "told", "clear", "told", "disown elm", "told", "disown oat", "told", "house"]

NO_NUMBERS = ["", "00", "01", "007", "0000000001", "-1", "-0", "+1", "1.0", "1e3", "1_000", "a", "one", "1a", "a1",
              "/", ":", "1,", "10000000000", "99999999999", "00000000000", "1" * 300]
NO_COUNTS = NO_NUMBERS + ["1000000001", "1000000010", "2000000000", "9999999999"]
NO_TIMES = NO_NUMBERS + ["0", "1000001", "1000000000", "9999999999"]

HEADS_ALONE = ["back", "clear", "told", "line", "house"]
HEADS_WITH_WORD = ["use", "strike", "disown", "hide", "show"]
HEADS = HEADS_ALONE + HEADS_WITH_WORD + ["put", "own", "fade", "fade own", "key", "take"]


def desk_of(rows, many=4):
    desk = Desk(many)
    for row in rows:
        desk.say(row)
    return desk


class DeskOf(unittest.TestCase):
    def setUp(self):
        self.desk = desk_of(ROWS)
        self.said = list(ROWS)

    def say(self, row, wanted):
        answer = self.desk.say(row)
        self.assertIs(type(answer), str)
        self.assertEqual(answer, wanted, row)
        self.said.append(row)

    def refused(self, error, row):
        with self.subTest(row=row):
            refused(self, error, self.desk.say, row)

    def tearDown(self):
        # The refused rows are not among those said: had they changed anything, the two desks were unlike.
        twin = desk_of(self.said)
        for row in PROBES:
            self.assertEqual(self.answer(self.desk, row), self.answer(twin, row), row)

    def answer(self, desk, row):
        try:
            return desk.say(row)
        except AheadError as error:
            return type(error)


class Deeds(DeskOf):
    def test_a_new_desk(self):
        desk = Desk(4)
        for row, wanted in (("told", "none"), ("line", "none"), ("house", "none"), ("clear", "[]")):
            self.assertEqual(desk.say(row), wanted)
        refused(self, NoSign, desk.say, "back")
        refused(self, NoChoice, desk.say, "take 0")

    def test_the_rows_above(self):
        self.say("told", "0 oat own, 1 oar house, 2 oak house, 3 oak tree house")
        self.say("line", "oar, oar")
        self.say("house", "45 elm, 15 oak, 15 oak tree, 25 oaks, 4 oar")

    def test_put(self):
        self.say("put 5 ash", "ok")
        self.say("put 0 a b c d", "ok")
        self.say("put 1000000000 abcdefghijkl abcdefghijk", "ok")
        self.say("put 2 oat", "ok")
        self.say("house", "0 a b c d, 1000000000 abcdefghijkl abcdefghijk, 5 ash, 45 elm, 15 oak, 15 oak tree, "
                          "25 oaks, 4 oar, 2 oat")
        self.say("told", "0 oat own, 1 oar house, 2 oak house, 3 oak tree house")

    def test_put_refused(self):
        for text in NO_WORD_TEXTS:
            self.refused(NoWord, "put 3 " + text)
        for word in ("oak", "oak tree", "oaks", "elm"):
            self.refused(Twice, "put 3 " + word)
        for count in NO_COUNTS:
            for word in ("ash", "oak", "OAK", ""):
                self.refused(NoRow, "put " + count + " " + word)
        for row in ("put", "put ", "put  ", "put 3", "put ash", "put  3 ash", "put ash 3", "put3 ash", "puts 3 ash"):
            self.refused(NoRow, row)

    def test_all_behind_the_blank_is_the_word(self):
        for row in ("put 3 ", "put 3  ", "put 3  ash", "put 3 ash ", "put 3 4 ash", "own 3 ", "own 3  ash", "own 3 3",
                    "hide ", "hide  ", "hide  ash", "hide ash "):
            self.refused(NoWord, row)
        for row in ("use ", "use  oak", "use oak ", "strike ", "strike  oak", "strike oak ", "disown ", "disown  oat",
                    "disown oat ", "show ", "show  yew", "show yew "):
            self.refused(Absent, row)

    def test_use_and_strike_are_of_the_house(self):
        self.say("use oak", "ok")
        self.say("use elm", "ok")
        self.say("use oaks", "ok")
        self.say("house", "46 elm, 16 oak, 15 oak tree, 26 oaks, 4 oar")
        self.say("strike elm", "ok")
        self.say("strike oak tree", "ok")
        self.say("strike oaks", "ok")
        self.say("house", "16 oak, 4 oar")
        self.say("clear", "[]")
        self.say("told", "0 oat own, 1 elm own, 2 oar house, 3 oak house")
        self.say("put 3 oaks", "ok")
        self.say("key o", "[o]")
        self.say("told", "0 oat own, 1 oar house, 2 oak house")

    def test_use_and_strike_refused(self):
        for text in ABSENT_TEXTS + ["oat", "yew"]:
            self.refused(Absent, "use " + text)
            self.refused(Absent, "strike " + text)

    def test_own_and_disown(self):
        self.say("own 9 oak", "ok")
        self.say("own 0 oaky", "ok")
        self.say("own 1000000000 oaks", "ok")
        self.say("told", "0 oak own, 1 oat own, 2 oaky own, 3 oar house")
        self.say("house", "45 elm, 15 oak, 15 oak tree, 25 oaks, 4 oar")
        self.say("disown oak", "ok")
        self.say("disown oaks", "ok")
        self.say("disown oat", "ok")
        self.say("told", "0 oaky own, 1 oar house, 2 oak house, 3 oak tree house")

    def test_own_and_disown_refused(self):
        for text in NO_WORD_TEXTS:
            self.refused(NoWord, "own 3 " + text)
        for word in ("oat", "elm"):
            self.refused(Twice, "own 3 " + word)
        for count in NO_COUNTS:
            for word in ("ash", "oat", "OAK", ""):
                self.refused(NoRow, "own " + count + " " + word)
        for text in ABSENT_TEXTS + ["oak", "oaks", "yew"]:
            self.refused(Absent, "disown " + text)
        for row in ("own", "own ", "own  ", "own 3", "own ash", "own  3 ash", "own ash 3", "disown"):
            self.refused(NoRow, row)

    def test_hide_and_show(self):
        self.say("hide oat", "ok")
        self.say("told", "0 oar house, 1 oak house, 2 oak tree house")
        self.say("show oaks", "ok")
        self.say("told", "0 oar house, 1 oaks house, 2 oak house, 3 oak tree house")
        self.say("hide fir", "ok")
        self.say("show fir", "ok")
        self.say("show oat", "ok")
        self.say("show yew", "ok")
        self.say("hide yew", "ok")
        self.say("told", "0 oat own, 1 oar house, 2 oaks house, 3 oak house")

    def test_hide_and_show_refused(self):
        for text in NO_WORD_TEXTS:
            self.refused(NoWord, "hide " + text)
        for word in ("oaks", "yew"):
            self.refused(Twice, "hide " + word)
        for text in ABSENT_TEXTS + ["oak", "oat", "elm"]:
            self.refused(Absent, "show " + text)

    def test_fade(self):
        self.say("fade 1", "ok")
        self.say("house", "22 elm, 7 oak, 7 oak tree, 12 oaks, 2 oar")
        self.say("told", "0 oat own, 1 oar house, 2 oak house, 3 oak tree house")
        self.say("fade 2", "ok")
        self.say("house", "5 elm, 1 oak, 1 oak tree, 3 oaks, 0 oar")
        self.say("fade 1000000", "ok")
        self.say("house", "0 elm, 0 oak, 0 oak tree, 0 oaks, 0 oar")
        self.say("told", "0 oat own, 1 oar house, 2 oak house, 3 oak tree house")

    def test_fade_own(self):
        self.say("own 2 oas", "ok")
        self.say("told", "0 oat own, 1 oas own, 2 oar house, 3 oak house")
        self.say("fade own 1", "ok")
        # 3 and 2 have become alike, and the pair has become nothing.
        self.say("told", "0 oas own, 1 oat own, 2 oak house, 3 oak tree house")
        self.say("fade own 1000000", "ok")
        self.say("house", "45 elm, 15 oak, 15 oak tree, 25 oaks, 4 oar")
        self.say("line", "oar, oar")

    def test_fade_refused(self):
        for times in NO_TIMES:
            self.refused(NoRow, "fade " + times)
            self.refused(NoRow, "fade own " + times)
        for row in ("fade", "fade ", "fade own", "fade own ", "fade 1 ", "fade  1", "fade own  1", "fade own 1 ",
                    "fade  own 1", "fade 1 own", "fade own own 1", "fade house 1", "fade own1", "fadeown 1",
                    "fade 1 1", "fade 1 oak"):
            self.refused(NoRow, row)

    def test_key_back_clear(self):
        self.say("key k", "[oak]")
        self.say("key  ", "[oak ]")
        self.say("key  ", "[oak  ]")
        self.say("back", "[oak ]")
        self.say("told", "0 oak tree house")
        self.say("clear", "[]")
        self.say("clear", "[]")
        for sign in LETTERS + " ":
            self.say("key " + sign, "[" + sign + "]")
            self.say("back", "[]")
        self.refused(NoSign, "back")
        self.say("key  ", "[ ]")
        self.say("told", "none")

    def test_key_refused(self):
        for sign in OTHER_SIGNS + ["", "ab", "  ", " a", "a ", "oak", "x" * 300]:
            self.refused(NoSign, "key " + sign)
        self.refused(NoRow, "key")
        self.say("clear", "[]")
        for length in range(1, 25):
            self.say("key x", "[" + "x" * length + "]")
        for sign in ("x", " ", "A", ""):
            self.refused(NoSign, "key " + sign)
        self.refused(NoRow, "key")

    def test_take(self):
        self.say("take 1", "oar")
        self.say("line", "oar, oar, oar")
        self.say("house", "45 elm, 15 oak, 15 oak tree, 25 oaks, 5 oar")
        self.say("told", "0 oat own, 1 elm own, 2 oar house, 3 oak house")
        self.say("take 0", "oat")
        self.say("key o", "[o]")
        self.say("told", "0 oat own, 1 oak house, 2 oak tree house, 3 oar house")
        self.say("take 2", "oak tree")
        self.say("line", "oar, oar, oar, oat, oak tree")
        self.say("house", "45 elm, 15 oak, 16 oak tree, 25 oaks, 5 oar")

    def test_take_refused(self):
        for number in ("4", "5", "1000", "1000000", "1000000001", "9999999999"):
            self.refused(NoChoice, "take " + number)
        for number in NO_NUMBERS:
            self.refused(NoRow, "take " + number)
        for row in ("take", "take ", "take  0", "take 0 ", "take 0 oak", "take oak", "take0"):
            self.refused(NoRow, row)
        self.say("key x", "[oax]")
        self.refused(NoChoice, "take 0")
        self.refused(NoChoice, "take 1")

    def test_told_and_the_number_of_words(self):
        wanted = ["0 oat own", "1 oar house", "2 oak house", "3 oak tree house"]
        for many in (1, 2, 3, 4, 5, 1000):
            self.assertEqual(desk_of(ROWS, many).say("told"), ", ".join(wanted[:many]))
        for many in (1, 2, 3):
            refused(self, NoChoice, desk_of(ROWS, many).say, f"take {many}")
            self.assertEqual(desk_of(ROWS, many).say(f"take {many - 1}"), wanted[many - 1].split(" ")[1])

    def test_more_than_ten_told(self):
        desk = desk_of([f"put {100 - number} {word}" for number, word in enumerate(LETTERS)], 1000)
        self.assertEqual(desk.say("told"), ", ".join(f"{number} {word} house" for number, word in enumerate(LETTERS)))
        self.assertEqual(desk.say("take 25"), "z")

    def test_asking_changes_nothing(self):
        for times in range(3):
            for row in ("told", "line", "house"):
                self.desk.say(row)


class NoRows(DeskOf):
    def test_another_first_word(self):
        for row in ("", " ", "  ", "x", "oak", "told?", "Told", "TOLD", "tol", "tolds", "none", "ok", "[]", "say told",
                    "typed", "owns 3 ash", "disowned oat", "usage oak", "Use oak", "struck oak", "letgo oak", "words",
                    "era", "hidden", "own_words", "find oa", "PUT 3 ash", "Put 3 ash", "3 ash", "put\t3 ash", "~",
                    "{}", "x" * 300):
            self.refused(NoRow, row)

    def test_a_first_word_that_wants_more(self):
        for head in HEADS:
            if head not in HEADS_ALONE:
                self.refused(NoRow, head)

    def test_a_row_that_goes_on(self):
        for head in HEADS_ALONE:
            for more in (" ", "  ", " 1", " oak", "s", ".", " told", ","):
                self.refused(NoRow, head + more)

    def test_a_blank_ahead(self):
        for head in HEADS:
            for more in ("", " ", " 1", " oak", " 1 oak", " a"):
                self.refused(NoRow, " " + head + more)

    def test_two_blanks_behind_the_first_word(self):
        for row in ("put  3 ash", "own  3 ash", "fade  1", "fade own  1", "take  0"):
            self.refused(NoRow, row)

    def test_no_row_is_told_ahead_of_the_deeds_refusals(self):
        for row in ("put 01 OAK", "put 1000000001 oak", "own 01 oat", "own 1000000001 ", "take 00", "take 10000000000"):
            self.refused(NoRow, row)

    def test_glued_heads(self):
        for head in HEADS:
            self.refused(NoRow, head + "x")
            self.refused(NoRow, head.replace("fade own", "fade ownx") + "1 oak")


class Apart(unittest.TestCase):
    def test_two_desks(self):
        one, other = Desk(4), Desk(2)
        for row in ROWS:
            one.say(row)
            for asked, wanted in (("told", "none"), ("line", "none"), ("house", "none")):
                self.assertEqual(other.say(asked), wanted)
        for row in ("put 3 oak", "put 4 oaks", "own 1 a", "key o"):
            other.say(row)
        self.assertEqual(other.say("told"), "0 oaks house, 1 oak house")
        self.assertEqual(other.say("house"), "3 oak, 4 oaks")
        self.assertEqual(one.say("told"), "0 oat own, 1 oar house, 2 oak house, 3 oak tree house")
        self.assertEqual(one.say("house"), "45 elm, 15 oak, 15 oak tree, 25 oaks, 4 oar")
        other.say("take 0")
        self.assertEqual(one.say("line"), "oar, oar")
        self.assertEqual(one.say("back"), "[o]")


class PlainDesk:
    """What a desk answers, a text or the class of a refusal, by deeds on plain lists."""

    def __init__(self, many):
        self.house, self.own, self.hidden = PlainWood(), PlainWood(), []
        self.typist = PlainTypist(self.own, self.house, self.hidden, many)

    def put(self, plain, count, word):
        if word in NO_WORD_TEXTS:
            return NoWord
        if word in plain.worths:
            return Twice
        plain.worths[word] = count
        return "ok"

    def strike(self, plain, word):
        return "ok" if plain.worths.pop(word, None) is not None else Absent

    def use(self, word):
        if word not in self.house.worths:
            return Absent
        self.house.worths[word] += 1
        return "ok"

    def hide(self, word):
        if word in NO_WORD_TEXTS:
            return NoWord
        if word in self.hidden:
            return Twice
        self.hidden.append(word)
        return "ok"

    def show(self, word):
        if word not in self.hidden:
            return Absent
        self.hidden.remove(word)
        return "ok"

    def key(self, sign):
        if len(self.typist.text) == 24 or sign not in list(LETTERS + " "):
            return NoSign
        self.typist.text += sign
        return "[" + self.typist.text + "]"

    def back(self):
        if self.typist.text == "":
            return NoSign
        self.typist.text = self.typist.text[:-1]
        return "[" + self.typist.text + "]"

    def clear(self):
        self.typist.text = ""
        return "[]"

    def take(self, number):
        return self.typist.take(number) if number < len(self.typist.told()) else NoChoice

    def fade(self, plain, times):
        plain.fade(times)
        return "ok"

    def lists(self):
        told = [f"{number} {row[0]} {'own' if row[3] else 'house'}" for number, row in enumerate(self.typist.told())]
        house = [f"{worth} {word}" for word, worth in self.house.words()]
        return [", ".join(texts) or "none" for texts in (told, self.typist.line, house)]


def row_and_answer(dice, plain):
    """A row, one of many kinds, and what the plain desk answers to it."""
    word = dice.choice(WORDS[:12] * 4 + NO_WORD_TEXTS)
    count, number = dice.choice([0, 1, 2, 3, 3, 10 ** 9]), dice.choice([0, 0, 1, 2, 3, 9999999999])
    sign, times = dice.choice(["a", "a", "b", "b", "c", " ", "", "A", "ab"]), dice.choice([1, 1, 2, 60, 10 ** 6])
    rows = [(f"put {count} {word}", lambda: plain.put(plain.house, count, word)),
            (f"own {count} {word}", lambda: plain.put(plain.own, count, word)),
            (f"use {word}", lambda: plain.use(word)), (f"strike {word}", lambda: plain.strike(plain.house, word)),
            (f"disown {word}", lambda: plain.strike(plain.own, word)), (f"hide {word}", lambda: plain.hide(word)),
            (f"show {word}", lambda: plain.show(word)), ("back", plain.back), ("clear", plain.clear),
            (f"key {sign}", lambda: plain.key(sign)), (f"key {sign}", lambda: plain.key(sign)),
            (f"take {number}", lambda: plain.take(number)), (f"take {number}", lambda: plain.take(number)),
            ("fade " + str(times), lambda: plain.fade(plain.house, times)),
            ("fade own " + str(times), lambda: plain.fade(plain.typist, times)),
            (dice.choice(["fade 0", "take 01", "put 1", "told ", "", "key", "use", " line"]), lambda: NoRow)]
    weights = [4 if text.split(" ")[0] in ("put", "own", "key", "take", "use") else 1 for text, deed in rows]
    row, deed = dice.choices(rows, weights)[0]
    return row, deed()


class Rows(unittest.TestCase):
    def answer(self, desk, row):
        try:
            return desk.say(row)
        except AheadError as error:
            return type(error)

    def test_rows_of_many_deeds(self):
        for number, many in enumerate((1, 2, 3, 5, 1000)):
            dice, desk, plain = dice_of(number), Desk(many), PlainDesk(many)
            for step in range(600):
                row, wanted = row_and_answer(dice, plain)
                self.assertEqual(self.answer(desk, row), wanted, row)
                self.assertEqual([desk.say(asked) for asked in ("told", "line", "house")], plain.lists(), row)

    def test_every_answer_came(self):
        dice, plain, came = dice_of(7), PlainDesk(3), {}
        for step in range(600):
            row, wanted = row_and_answer(dice, plain)
            came.setdefault(wanted if isinstance(wanted, type) else row.split(" ")[0], row)
        for wanted in ("put", "own", "use", "strike", "disown", "hide", "show", "fade", "key", "back", "clear", "take",
                       NoWord, Twice, Absent, NoSign, NoChoice, NoRow):
            self.assertIn(wanted, came)


if __name__ == "__main__":
    unittest.main()
