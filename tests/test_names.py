"""Names and numbers."""

import inspect
import unittest

from unopened.names import is_name, is_number
from unopened.series import Series

OTHERS = [None, True, False, (), ("a",), [], ["a"], {}, {"a": 1}, Series([1]), [[["a"]]]]


class TestNames(unittest.TestCase):
    def test_parameters(self):
        self.assertEqual(str(inspect.signature(is_name)), "(value)")
        self.assertEqual(str(inspect.signature(is_number)), "(value, least, most)")
        self.assertIs(is_name(value="ab"), True)
        self.assertIs(is_number(value=2, least=1, most=3), True)

    def test_names(self):
        for text in ["a", "z", "ab", "abc", "wxyz", "late", "mix", "use", "aaaa"]:
            self.assertIs(is_name(text), True, text)

    def test_texts_that_are_no_names(self):
        for text in ["", "abcde", "abcdefghij", "a" * 3000]:
            self.assertIs(is_name(text), False, text)
        for text in ["A", "aB", "Abcd", "1", "a1", "1a", " ", " a", "a ", "a b", "ab\n", "\n", "\na", "a\nb"]:
            self.assertIs(is_name(text), False, text)
        for text in ["-", "_", "a_b", "a/b", ";", ">", ",", "`", "{", "a-", "'a'"]:
            self.assertIs(is_name(text), False, text)

    def test_other_values_are_no_names(self):
        for value in [*OTHERS, 0, 1, -1, 10 ** 2999]:
            self.assertIs(is_name(value), False)


class TestNumbers(unittest.TestCase):
    def test_bounds(self):
        for least, most in [(0, 1000), (-99, 99), (5, 5), (1, 10 ** 2999), (-10 ** 2999, -1)]:
            self.assertIs(is_number(least, least, most), True)
            self.assertIs(is_number(most, least, most), True)
            self.assertIs(is_number(least - 1, least, most), False)
            self.assertIs(is_number(most + 1, least, most), False)
        self.assertIs(is_number(500, 0, 1000), True)
        self.assertIs(is_number(0, 1, 0), False)

    def test_truths_are_no_numbers(self):
        for least, most in [(0, 1), (-5, 5), (0, 0), (1, 1)]:
            self.assertIs(is_number(True, least, most), False)
            self.assertIs(is_number(False, least, most), False)

    def test_other_values_are_no_numbers(self):
        for value in [*OTHERS, "", "1", "a", b"1", [1], (1,)]:
            self.assertIs(is_number(value, -10, 10), False)


if __name__ == "__main__":
    unittest.main()
