import itertools
import unittest

from aheadword.ranks import ahead_of, best_of, rank_of

BEST_FIRST = [("oat", 9), ("oak", 3), ("oak tree", 3), ("oaks", 3), ("ash", 0)]


class Ahead(unittest.TestCase):
    def test_greater_worth_is_ahead_whatever_the_words(self):
        for one, other in ((("zoo", 2), ("ant", 1)), (("ant", 2), ("zoo", 1)), (("a", 1), ("b", 0)),
                           (("b", 10 ** 15 - 1), ("a", 10 ** 15 - 2)), (("b", 10), ("a", 9))):
            self.assertIs(ahead_of(one, other), True)
            self.assertIs(ahead_of(other, one), False)

    def test_of_like_worths_the_lesser_word_is_ahead(self):
        for lesser, greater in (("a", "b"), ("oak", "oaks"), ("oak", "oak tree"), ("oak tree", "oaks"), ("a z", "aa"),
                                ("aa", "b")):
            for worth in (0, 1, 10 ** 15 - 1):
                self.assertIs(ahead_of((lesser, worth), (greater, worth)), True)
                self.assertIs(ahead_of((greater, worth), (lesser, worth)), False)

    def test_none_is_ahead_of_itself(self):
        for pair in BEST_FIRST:
            self.assertIs(ahead_of(pair, pair), False)
            self.assertIs(ahead_of(pair, (pair[0], pair[1])), False)

    def test_of_two_just_one_is_ahead(self):
        for i, one in enumerate(BEST_FIRST):
            for k, other in enumerate(BEST_FIRST):
                self.assertIs(ahead_of(one, other), i < k)


class Best(unittest.TestCase):
    def told(self, rated, many, wanted):
        answer = best_of(rated, many)
        self.assertIs(type(answer), list)
        self.assertEqual([type(pair) for pair in answer], [tuple] * len(wanted))
        self.assertEqual(answer, wanted)
        return answer

    def test_of_none(self):
        for many in (1, 2, 1000):
            self.told([], many, [])

    def test_fewer_as_many_and_more_in_every_order(self):
        for order in itertools.permutations(BEST_FIRST):
            for many in (1, 2, 3, 4, 5, 6, 7, 1000):
                self.told(list(order), many, BEST_FIRST[:many])

    def test_six_hundred(self):
        words = [one + other for one in "abcdefghijklmnopqrstuvwxyz" for other in "abcdefghijklmnopqrstuvwxyz"][:600]
        rated = [(word, place * 7919 % 13) for place, word in enumerate(words)]
        wanted = []
        for worth in range(12, -1, -1):
            wanted.extend(sorted(pair for pair in rated if pair[1] == worth))
        for many in (1, 7, 599, 600, 601, 1000):
            self.told(rated, many, wanted[:many])
            self.told(rated[::-1], many, wanted[:many])

    def test_list_handed_in_stays(self):
        for rated in (BEST_FIRST[::-1], BEST_FIRST[:], BEST_FIRST[:1], []):
            kept = rated[:]
            for many in (1, len(rated) or 1, 1000):
                answer = best_of(rated, many)
                self.assertEqual(rated, kept)
                answer.append(("elm", 4))
                answer[0] = ("fir", 5)
                self.assertEqual(rated, kept)

    def test_what_is_told_stays(self):
        for many in (2, 5, 1000):
            rated = BEST_FIRST[:]
            answer = best_of(rated, many)
            kept = answer[:]
            again = best_of(rated, many)
            again.clear()
            rated.clear()
            self.assertEqual(answer, kept)


class Rank(unittest.TestCase):
    def test_each_place_in_every_order(self):
        for order in itertools.permutations(BEST_FIRST):
            for place, pair in enumerate(BEST_FIRST):
                told = rank_of(list(order), pair[0])
                self.assertIs(type(told), int)
                self.assertEqual(told, place)

    def test_one_alone_is_the_best(self):
        told = rank_of([("oak", 0)], "oak")
        self.assertIs(type(told), int)
        self.assertEqual(told, 0)

    def test_not_among_them(self):
        for word in ("elm", "oa", "oak t", "oak trees", "oak ", "OAK", "", "a"):
            self.assertIsNone(rank_of(BEST_FIRST, word))

    def test_of_none(self):
        for word in ("oak", "a", ""):
            self.assertIsNone(rank_of([], word))

    def test_place_is_that_among_the_best(self):
        rated = [("w" + letter, place * 5 % 7) for place, letter in enumerate("qwertyuiopasdfghjklzxcvbnm")]
        for place, pair in enumerate(best_of(rated, 1000)):
            self.assertEqual(rank_of(rated, pair[0]), place)

    def test_list_handed_in_stays(self):
        rated = BEST_FIRST[::-1]
        rank_of(rated, "oak")
        rank_of(rated, "elm")
        self.assertEqual(rated, BEST_FIRST[::-1])


if __name__ == "__main__":
    unittest.main()
