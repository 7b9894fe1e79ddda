"""What a name and a version is [4]."""

import string
import unittest

from groupsteps.names import is_name, is_version
from tests.support import StrictCase, wrong_kinds

SIXTY_DIGITS = int("9" * 60)


class Names(StrictCase):
    def test_names(self):
        for value in ("core", "store", "shell", "a", "z", "az", "abcdefgh", "stuvwxyz", "aaaaaaaa", "none", "true"):
            with self.subTest(value):
                self.assertIs(is_name(value), True)

    def test_every_length(self):
        for length in range(30):
            with self.subTest(length):
                self.assertIs(is_name("x" * length), 1 <= length <= 8)

    def test_every_single_character(self):
        for number in range(0, 400):
            with self.subTest(number):
                self.assertIs(is_name(chr(number)), chr(number) in string.ascii_lowercase)

    def test_every_character_at_each_place(self):
        for character in string.printable:
            expected = character in string.ascii_lowercase
            for text in (character + "bcd", "ab" + character + "d", "abc" + character, "abcdefg" + character):
                with self.subTest(text):
                    self.assertIs(is_name(text), expected)

    def test_strings_that_are_no_names(self):
        for value in ("", " ", "\n", "Core", "coRe", "corE", "CORE", "core1", "1core", "0", "co re", " core", "core ",
                      "core\n", "\ncore", "co\nre", "co_re", "_core", "co-re", "co.re", "abcdefghi", "abcdefgh ",
                      "abcdefgh\n", " abcdefgh", "abcdefghijklmnopqrstuvwxyz", "a" * 20000):
            with self.subTest(value):
                self.assertIs(is_name(value), False)

    def test_values_of_other_kinds(self):
        for value in [*wrong_kinds(), 0, 1, SIXTY_DIGITS, ["c", "o", "r", "e"], ("c", "o", "r", "e"), ("core",), ["core"],
                      {"core": "core"}, b"core", (0, 1)]:
            with self.subTest(value=repr(value)):
                self.assertIs(is_name(value), False)

    def test_passed_by_name(self):
        self.assertIs(is_name(value="core"), True)
        self.assertIs(is_name(value="Core"), False)


class Versions(StrictCase):
    def test_versions(self):
        for value in (0, 1, 2, 15, 16, 17, 255, 256, 10 ** 18, 2 ** 64, 10 ** 59, SIXTY_DIGITS):
            with self.subTest(value):
                self.assertIs(is_version(value), True)

    def test_negative_integers(self):
        for value in (-1, -2, -256, -10 ** 18, -2 ** 64, -SIXTY_DIGITS):
            with self.subTest(value):
                self.assertIs(is_version(value), False)

    def test_bools_are_no_versions(self):
        self.assertIs(is_version(True), False)
        self.assertIs(is_version(False), False)

    def test_values_of_other_kinds(self):
        for value in [*wrong_kinds(), "", "0", "1", "core", b"0", [1], (1,), {1: 1}, (0, 1), (0, None)]:
            with self.subTest(value=repr(value)):
                self.assertIs(is_version(value), False)

    def test_passed_by_name(self):
        self.assertIs(is_version(value=3), True)
        self.assertIs(is_version(value=-3), False)


class Unchanged(StrictCase):
    def test_arguments_stay_as_they_were(self):
        for function in (is_name, is_version):
            for value in (["core", [1]], {"core": [1], "store": {}}):
                before = repr(value)
                with self.subTest(function=function, value=before):
                    self.assertIs(function(value), False)
                    self.assertEqual(repr(value), before)


if __name__ == "__main__":
    unittest.main()
