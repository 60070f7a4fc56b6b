import unittest

from aheadword import errors

REFUSALS = ["NoWord", "Twice", "Absent", "NoSign", "NoChoice", "Beside", "NoText", "NoRow"]


def made(name):
    return getattr(errors, name)(7 if name == "NoText" else "some words")


class Refusals(unittest.TestCase):
    def test_base_is_a_value_error(self):
        self.assertEqual(errors.AheadError.__bases__, (ValueError,))
        self.assertIsInstance(errors.AheadError("some words"), ValueError)

    def test_each_stands_under_the_base_and_under_no_other(self):
        for name in REFUSALS:
            for other in REFUSALS:
                with self.subTest(name=name, other=other):
                    self.assertEqual(isinstance(made(name), getattr(errors, other)), name == other)
            self.assertIsInstance(made(name), errors.AheadError)
            self.assertIsInstance(made(name), ValueError)

    def test_each_is_its_own_class(self):
        for name in REFUSALS:
            self.assertEqual(getattr(errors, name).__name__, name)
            self.assertIs(type(made(name)), getattr(errors, name))
        self.assertEqual(len({getattr(errors, name) for name in REFUSALS}), len(REFUSALS))

    def test_each_can_be_raised_and_taken_by_name_base_and_value_error(self):
        for name in REFUSALS:
            for taken in (getattr(errors, name), errors.AheadError, ValueError):
                with self.subTest(name=name, taken=taken):
                    with self.assertRaises(taken):
                        raise made(name)

    def test_others_are_made_of_any_text(self):
        for name in ["AheadError"] + REFUSALS:
            if name != "NoText":
                for text in ("", " ", "oak", "{brackets} ~", "x" * 300):
                    with self.subTest(name=name, text=text):
                        self.assertEqual(str(getattr(errors, name)(text)), text)

    def test_no_text_keeps_its_row(self):
        for row in (0, 1, 2, 599, 10 ** 9):
            self.assertEqual(errors.NoText(row).row, row)
            self.assertIs(type(errors.NoText(row).row), int)
            with self.assertRaises(errors.NoText) as caught:
                raise errors.NoText(row)
            self.assertEqual(caught.exception.row, row)

    def test_rows_of_two_refusals_are_apart(self):
        one, other = errors.NoText(1), errors.NoText(2)
        self.assertEqual((one.row, other.row), (1, 2))


if __name__ == "__main__":
    unittest.main()
