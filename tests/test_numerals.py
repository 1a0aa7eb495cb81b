import unittest

from deepcuts.errors import BadText
from deepcuts.numerals import number_in


class Numbers(unittest.TestCase):
    def test_numbers(self):
        for number in (0, 1, 9, 10, 100, 909, 10 ** 40, 10 ** 899 + 7):
            self.assertEqual(number_in(str(number)), number)

    def test_texts_that_are_none(self):
        for text in ("", " ", "00", "01", "-0", "-1", "+1", "1 ", " 1", "1\n", "1.0", "1e3", "1_0", "a", "1a", "\u0661"):
            with self.subTest(text=text), self.assertRaises(BadText):
                number_in(text)


if __name__ == "__main__":
    unittest.main()
