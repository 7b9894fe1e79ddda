"""Single windows [7]: what they are, what they contain, and how they rise."""

import unittest

from groupsteps.errors import InvalidVersion, InvalidWindow
from groupsteps.windows import contains, is_window, rises
from tests.support import StrictCase, Touchy, wrong_kinds

FORTY = 10 ** 39
SIXTY = int("9" * 60)
WINDOWS = [
    (0, 0), (0, 1), (0, 2), (0, None), (1, 1), (1, 2), (1, None), (2, 2), (2, None), (3, 7), (16, 16),
    (FORTY, FORTY), (FORTY, FORTY + 1), (FORTY, None), (0, FORTY), (SIXTY - 1, SIXTY), (SIXTY, SIXTY), (SIXTY, None),
]
NO_WINDOWS = [
    (), (0,), (None,), (0, 1, 2), (0, 1, None), (0, None, None), ((0, 1),), ((0, 1), None), (0, (1, 2)),
    [], [0], [0, 2], [0, None], [0, 1, 2], [(0, 2)], (0, [2]), ([0], 2),
    (1, 0), (2, 1), (16, 0), (FORTY + 1, FORTY), (SIXTY, SIXTY - 1), (SIXTY, 0),
    (-1, 0), (-1, None), (-2, -1), (-1, -1), (0, -1), (1, -1), (-FORTY, FORTY), (0, -FORTY),
    (True, 1), (True, 2), (True, None), (False, 0), (False, 1), (False, None), (0, True), (0, False), (1, True),
    (True, True), (False, False), (False, True),
    ("0", 1), (0, "1"), ("0", "1"), ("", None), (0, ""), (b"0", 1), (0, b"1"), "01", "0..1", "", b"\x00\x01",
    (None, None), (None, 0), (None, 3), {}, {0: 2}, {0: None}, {0: 1, 1: 2}, {0, 2}, frozenset([0, 2]), range(2),
    None, True, False, 0, 1, FORTY, (Touchy(), 1), (0, Touchy()), (Touchy(), None), Touchy(), object(),
]
NO_VERSIONS = [None, True, False, -1, -FORTY, "", "0", "1", b"1", [], [1], (), (1,), (0, 1), {}, {1: 1}, Touchy(), object()]


def members(window, most):
    """The versions up to most that are in the window, by counting them."""
    low, high = window
    return list(range(low, most + 1 if high is None else min(high, most) + 1))


def upper(window, most):
    return most if window[1] is None else window[1]


class IsWindow(StrictCase):
    def test_windows(self):
        for value in WINDOWS:
            with self.subTest(value):
                self.assertIs(is_window(value), True)

    def test_no_windows(self):
        for value in [*NO_WINDOWS, *wrong_kinds()]:
            with self.subTest(value=repr(value)):
                self.assertIs(is_window(value), False)

    def test_all_small_bounds(self):
        for low in range(-2, 5):
            for high in range(-2, 5):
                with self.subTest(low=low, high=high):
                    self.assertIs(is_window((low, high)), 0 <= low <= high)
            with self.subTest(low=low):
                self.assertIs(is_window((low, None)), low >= 0)

    def test_passed_by_name(self):
        self.assertIs(is_window(value=(0, 2)), True)
        self.assertIs(is_window(value=[0, 2]), False)


class Contains(StrictCase):
    def test_all_small_windows(self):
        for low in range(5):
            for high in [*range(low, 6), None]:
                for version in range(9):
                    with self.subTest(low=low, high=high, version=version):
                        window = (low, high)
                        self.assertIs(contains(window, version), version in members(window, 8))

    def test_long_numbers(self):
        for window in ((FORTY, FORTY), (FORTY, FORTY + 1), (FORTY, None), (FORTY - 1, FORTY + 1)):
            for version in range(FORTY - 3, FORTY + 4):
                with self.subTest(window=window, version=version):
                    self.assertIs(contains(window, version), version in members(window, FORTY + 5))
        self.assertIs(contains((0, None), SIXTY), True)
        self.assertIs(contains((SIXTY, SIXTY), SIXTY), True)
        self.assertIs(contains((SIXTY, SIXTY), SIXTY - 1), False)
        self.assertIs(contains((0, SIXTY - 1), SIXTY), False)

    def test_wrong_windows(self):
        for value in NO_WINDOWS:
            with self.subTest(value=repr(value)):
                self.assertFails(InvalidWindow, {"value": value}, contains, value, 1)

    def test_wrong_versions(self):
        for value in NO_VERSIONS:
            for window in ((0, 3), (0, None), (5, 5)):
                with self.subTest(value=repr(value), window=window):
                    self.assertFails(InvalidVersion, {"value": value}, contains, window, value)

    def test_the_window_is_checked_first(self):
        for window in NO_WINDOWS:
            for version in (True, -1, None, "1"):
                with self.subTest(window=repr(window), version=version):
                    self.assertFails(InvalidWindow, {"value": window}, contains, window, version)

    def test_arguments_exchanged(self):
        self.assertFails(InvalidWindow, {"value": 1}, contains, 1, (0, 2))

    def test_passed_by_name(self):
        self.assertIs(contains(version=3, window=(1, 3)), True)
        self.assertIs(contains((1, 3), version=4), False)
        bad = [1, 3]
        self.assertFails(InvalidWindow, {"value": bad}, contains, version=True, window=bad)


class Rises(StrictCase):
    def test_all_pairs_of_small_windows(self):
        small = [(low, high) for low in range(4) for high in [*range(low, 5), None]]
        for first in small:
            for second in small:
                with self.subTest(first=first, second=second):
                    expected = first[0] <= second[0] and upper(first, 99) <= upper(second, 99)
                    self.assertIs(rises(first, second), expected)

    def test_a_window_rises_from_itself(self):
        for window in WINDOWS:
            with self.subTest(window):
                self.assertIs(rises(window, window), True)

    def test_long_numbers(self):
        self.assertIs(rises((FORTY, FORTY), (FORTY, FORTY + 1)), True)
        self.assertIs(rises((FORTY, FORTY + 1), (FORTY, FORTY)), False)
        self.assertIs(rises((FORTY, FORTY), (FORTY - 1, FORTY)), False)
        self.assertIs(rises((FORTY, None), (FORTY + 1, SIXTY)), False)
        self.assertIs(rises((FORTY, SIXTY), (FORTY, None)), True)
        self.assertIs(rises((SIXTY, None), (SIXTY, None)), True)
        self.assertIs(rises((SIXTY, None), (SIXTY - 1, None)), False)

    def test_wrong_windows(self):
        for value in NO_WINDOWS:
            with self.subTest(value=repr(value)):
                self.assertFails(InvalidWindow, {"value": value}, rises, value, (1, 2))
                self.assertFails(InvalidWindow, {"value": value}, rises, (1, 2), value)
                self.assertFails(InvalidWindow, {"value": value}, rises, (1, None), value)

    def test_the_first_window_is_checked_first(self):
        for first in NO_WINDOWS:
            for second in ([0, 2], (0, True), (3, 2), None):
                with self.subTest(first=repr(first), second=second):
                    self.assertFails(InvalidWindow, {"value": first}, rises, first, second)

    def test_passed_by_name(self):
        self.assertIs(rises(second=(0, 1), first=(1, 2)), False)
        self.assertIs(rises((0, 1), second=(1, 2)), True)
        bad = (2, 1)
        self.assertFails(InvalidWindow, {"value": bad}, rises, second=[0, 1], first=bad)


class Unchanged(StrictCase):
    def test_arguments_stay_as_they_were(self):
        value = [0, [2], {"a": [1]}]
        before = repr(value)
        self.assertIs(is_window(value), False)
        self.assertFails(InvalidWindow, {"value": value}, contains, value, 1)
        self.assertFails(InvalidVersion, {"value": value}, contains, (0, 1), value)
        self.assertFails(InvalidWindow, {"value": value}, rises, (0, 1), value)
        self.assertEqual(repr(value), before)


if __name__ == "__main__":
    unittest.main()
