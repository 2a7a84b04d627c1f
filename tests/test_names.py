"""Names and letter numbers: [1], [7]."""

import unittest

from filedalike.names import is_name, is_number


class Names(unittest.TestCase):
    def test_names_have_one_to_eight_letters(self):
        for value in ("a", "z", "at", "offer", "abcdefgh", "zzzzzzzz"):
            self.assertIs(is_name(value), True, value)
        for value in ("", "abcdefghi", "a" * 1000):
            self.assertIs(is_name(value), False, value)

    def test_each_sign_is_one_of_a_to_z(self):
        for code in range(0x300):
            sign = chr(code)
            right = sign in "abcdefghijklmnopqrstuvwxyz"
            self.assertIs(is_name(sign), right, repr(sign))
            self.assertIs(is_name("a" + sign), right, repr(sign))
            self.assertIs(is_name(sign + "a"), right, repr(sign))

    def test_other_values_are_no_names(self):
        for value in (None, 1, True, b"a", ["a"], ("a",), {"a": 1}, 1.5, object()):
            self.assertIs(is_name(value), False)


class Numbers(unittest.TestCase):
    def test_numbers_go_from_one_to_ten_to_the_thirty(self):
        for value in (1, 2, 999, 10 ** 30 - 1, 10 ** 30):
            self.assertIs(is_number(value), True, value)
        for value in (0, -1, 10 ** 30 + 1, 10 ** 31, -10 ** 30, 10 ** 5000):
            self.assertIs(is_number(value), False)

    def test_true_and_false_are_no_numbers(self):
        self.assertIs(is_number(True), False)
        self.assertIs(is_number(False), False)

    def test_other_values_are_no_numbers(self):
        for value in (None, "1", b"1", 1.0, [1], (1,), {1: 1}, object()):
            self.assertIs(is_number(value), False)


if __name__ == "__main__":
    unittest.main()
