"""The texts of windows [7]: there and back, and nothing else is accepted."""

import itertools
import re
import unittest

from groupsteps.errors import InvalidText, InvalidWindow
from groupsteps.windows import format_window, parse_window
from tests.support import StrictCase, Touchy, wrong_kinds

SIXTY = int("9" * 60)
LEAST_SIXTY = 10 ** 59
TEXTS = {
    (0, 0): "0..0", (0, 1): "0..1", (0, None): "0..", (1, 4): "1..4", (9, 10): "9..10", (10, 100): "10..100",
    (3, None): "3..", (20, 20): "20..20", (100, None): "100..", (15, 16): "15..16",
    (0, SIXTY): "0.." + "9" * 60, (SIXTY, SIXTY): "9" * 60 + ".." + "9" * 60, (SIXTY, None): "9" * 60 + "..",
    (LEAST_SIXTY, SIXTY): "1" + "0" * 59 + ".." + "9" * 60, (SIXTY - 1, SIXTY): "9" * 59 + "8.." + "9" * 60,
}
NO_TEXTS = [
    "", " ", "\n", ".", "..", "...", "....", "0", "1", "14", "1.4", "1...4", "1....4", "1.. .4", "1. .4", "1 4", "1,4",
    "1:4", "1-4", "..4", "..0", " ..4", ".4", "1.", "1...", "1..4.", "1..4..", "1..4..5", "..1..4", ".1..4",
    "4..1", "1..0", "10..9", "100..99", "9" * 60 + ".." + "9" * 59, "9" * 60 + ".." + "9" * 59 + "8",
    "01..4", "1..04", "00..0", "0..00", "00..", "00..00", "01..", "1..00", "0..01", "007..8",
    "+1..4", "1..+4", "-1..4", "1..-4", "-0..4", "0..-0", "+0..", "-1..", "--1..", "1..--4",
    " 1..4", "1..4 ", "1 ..4", "1.. 4", " 1..", "1.. ", "1 ..", "1..\n", "1..4\n", "\n1..4", "1\n..4", "1..\n4",
    "1..4\n\n", "1..4\n1..4", "1_0..20", "1..2_0", "_1..4", "1_..4", "1..4_", "1.._", "_..",
    "a..b", "1..b", "a..4", "1..None", "None..", "(1, 4)", "1, 4", "1..4a", "x1..4", "0x1..4", "1..0x4", "1e1..20",
    "1.0..4", "1..4.0", "1..4,", "1..*", "1..-", "[1..4]", "1 .. 4", "1\t..4", "'1..4'",
]


class Format(StrictCase):
    def test_texts(self):
        for window, text in TEXTS.items():
            with self.subTest(text):
                self.assertSame(format_window(window), text)

    def test_wrong_windows(self):
        values = [*wrong_kinds(), [0, 2], (2, 1), (0, -1), (-1, None), (0, 1, 2), (0,), ("0", "1"), "0..1", (None, 2),
                  (0, "2"), (True, 2), (0, False), (0, Touchy())]
        for value in values:
            with self.subTest(value=repr(value)):
                self.assertFails(InvalidWindow, {"value": value}, format_window, value)

    def test_passed_by_name(self):
        self.assertSame(format_window(window=(0, 2)), "0..2")

    def test_arguments_stay_as_they_were(self):
        value = [0, [2]]
        self.caught(format_window, value)
        self.assertSame(value, [0, [2]])


class Parse(StrictCase):
    def test_windows(self):
        for window, text in TEXTS.items():
            with self.subTest(text):
                self.assertSame(parse_window(text), window)

    def test_strings_that_are_no_texts(self):
        for text in NO_TEXTS:
            with self.subTest(text):
                self.assertFails(InvalidText, {"line": 1}, parse_window, text)

    def test_long_strings_that_are_no_texts(self):
        for text in ("." * 20000, "0" * 20000, "1.." + "a" * 19997, "0" * 10000 + "..", "a" * 20000, "1 " * 10000,
                     "1.." * 6000):
            with self.subTest(text[:10]):
                self.assertFails(InvalidText, {"line": 1}, parse_window, text)

    def test_values_that_are_no_strings(self):
        for value in [*wrong_kinds(), 0, 1, 14, (1, 4), (1, None), ("1..4",), ["1..4"], {"1..4": 1}, b"1..4", ["1", "..", "4"]]:
            with self.subTest(value=repr(value)):
                self.assertFails(InvalidText, {"line": 0}, parse_window, value)

    def test_passed_by_name(self):
        self.assertSame(parse_window(text="1..4"), (1, 4))


class ThereAndBack(StrictCase):
    def test_all_small_windows(self):
        for low in range(13):
            for high in [*range(low, 24), None]:
                with self.subTest(low=low, high=high):
                    self.assertSame(parse_window(format_window((low, high))), (low, high))

    def test_windows_of_every_number_of_digits(self):
        for digits in range(1, 61):
            least, greatest = 10 ** (digits - 1), 10 ** digits - 1
            for window in ((least, greatest), (greatest, greatest), (least, None), (greatest, None), (0, least)):
                with self.subTest(window):
                    self.assertSame(parse_window(format_window(window)), window)

    def test_nothing_but_the_texts_of_windows_is_accepted(self):
        form = re.compile(r"(0|[1-9][0-9]*)\.\.(0|[1-9][0-9]*|)")
        accepted = 0
        for length in range(7):
            for characters in itertools.product("012. -" if length < 6 else "01.", repeat=length):
                text = "".join(characters)
                match = form.fullmatch(text)
                if match and (match[2] == "" or int(match[1]) <= int(match[2])):
                    accepted += 1
                    self.assertEqual(format_window(parse_window(text)), text)
                else:
                    self.assertFails(InvalidText, {"line": 1}, parse_window, text)
        self.assertGreater(accepted, 30)


if __name__ == "__main__":
    unittest.main()
