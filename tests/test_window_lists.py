"""Lists of windows [7]: where they fall, and where they reach a version."""

import itertools
import unittest

from groupsteps.errors import InvalidVersion, InvalidWindows
from groupsteps.windows import first_falling, least_reaching
from tests.support import StrictCase, Touchy, wrong_kinds

FORTY = 10 ** 39
SMALL = [(0, 0), (0, 1), (1, 1), (1, 2), (0, None), (2, None)]
NO_WINDOWS = [
    None, True, 0, "0..1", b"", (), (0,), (0, 1, 2), [0, 1], [], (True, 1), (0, True), (False, None), (1, 0),
    (-1, 0), (0, -1), ("0", 1), (0, "1"), (None, 1), (None, None), {0: 1}, Touchy(), (0, Touchy()), (Touchy(), 1),
]
NO_LISTS = [
    None, True, False, 0, 1, -1, "", "0..1", b"", (), ((0, 1),), ((0, 1), (1, 2)), (0, 1), {}, {0: (0, 1)},
    {(0, 1): (1, 2)}, {(0, 1)}, frozenset(), range(0), iter([(0, 1)]), Touchy(), object(),
]
NO_VERSIONS = [None, True, False, -1, -FORTY, "", "0", "1", b"1", [], [1], (), (1,), (0, 1), {}, Touchy(), object()]


def above_all(high):
    return 10 ** 80 if high is None else high


def expected_fall(windows):
    falls = [at for at in range(1, len(windows))
             if windows[at][0] < windows[at - 1][0] or above_all(windows[at][1]) < above_all(windows[at - 1][1])]
    return min(falls, default=None)


def expected_reach(windows, version):
    return min([at for at in range(len(windows)) if above_all(windows[at][1]) >= version], default=None)


def rising_list(length):
    """Bounds that stay and grow in turns, without an upper bound in the last tenth."""
    return [(at // 3, None if at >= 36 else at // 2 + 1) for at in range(length)]


class FirstFalling(StrictCase):
    def test_no_windows_and_one(self):
        self.assertIs(first_falling([]), None)
        for window in SMALL:
            with self.subTest(window):
                self.assertIs(first_falling([window]), None)

    def test_all_short_lists(self):
        for length in (2, 3, 4):
            for windows in itertools.product(SMALL, repeat=length):
                with self.subTest(windows):
                    self.assertSame(first_falling(list(windows)), expected_fall(windows))

    def test_rising_lists_of_every_length(self):
        for length in range(1, 41):
            with self.subTest(length):
                self.assertIs(first_falling(rising_list(length)), None)
                self.assertIs(first_falling([(3, 5)] * length), None)
                self.assertIs(first_falling([(3, None)] * length), None)

    def test_one_fall_at_every_position(self):
        for length in range(2, 41):
            for at in range(1, length):
                low_falls = [(7, 9)] * at + [(6, 9)] * (length - at)
                high_falls = [(7, 9)] * at + [(7, 8)] * (length - at)
                bound_comes_back = [(7, None)] * at + [(8, FORTY)] * (length - at)
                with self.subTest(length=length, at=at):
                    self.assertSame(first_falling(low_falls), at)
                    self.assertSame(first_falling(high_falls), at)
                    self.assertSame(first_falling(bound_comes_back), at)

    def test_the_first_of_several_falls(self):
        self.assertSame(first_falling([(5, 9), (4, 8), (3, 7)]), 1)
        self.assertSame(first_falling([(0, 9), (0, 9), (0, 8), (0, 9), (0, 1)]), 2)
        self.assertSame(first_falling([(at, at) for at in range(40, 0, -1)]), 1)

    def test_each_window_is_compared_with_the_one_before_only(self):
        self.assertSame(first_falling([(0, 5), (3, 9), (2, 9), (0, 9)]), 2)
        self.assertSame(first_falling([(1, 5), (0, 6), (2, 2)]), 1)

    def test_long_numbers_and_long_lists(self):
        self.assertIs(first_falling([(FORTY, FORTY), (FORTY, FORTY + 1), (FORTY + 1, None)]), None)
        self.assertSame(first_falling([(FORTY, FORTY + 1), (FORTY, FORTY)]), 1)
        self.assertIs(first_falling([(at, at + 1) for at in range(800)]), None)
        self.assertSame(first_falling([(at, at + 1) for at in range(799)] + [(797, None)]), 799)

    def test_values_that_are_no_lists(self):
        for value in NO_LISTS:
            with self.subTest(value=repr(value)):
                self.assertFails(InvalidWindows, {"position": None}, first_falling, value)

    def test_items_that_are_no_windows(self):
        for item in [*NO_WINDOWS, *wrong_kinds()]:
            for at in (0, 1, 2, 5):
                with self.subTest(item=repr(item), at=at):
                    windows = [(0, 1)] * at + [item] + [(0, 1)] * (5 - at)
                    self.assertFails(InvalidWindows, {"position": at}, first_falling, windows)

    def test_the_first_of_several_wrong_items(self):
        self.assertFails(InvalidWindows, {"position": 1}, first_falling, [(0, 1), [0, 1], None, (2, 1)])
        self.assertFails(InvalidWindows, {"position": 0}, first_falling, [True, False])

    def test_wrong_items_come_before_falls(self):
        self.assertFails(InvalidWindows, {"position": 3}, first_falling, [(1, 2), (0, 2), (0, 1), (1, True)])

    def test_passed_by_name(self):
        self.assertSame(first_falling(windows=[(1, 1), (0, 1)]), 1)

    def test_the_list_stays_as_it_was(self):
        for windows in ([], [(0, 1), (1, 2)], [(1, 2), (0, 2)], [(0, None), (0, 3), (5, 7)]):
            before = list(windows)
            first_falling(windows)
            self.assertSame(windows, before)
        wrong = [(0, 1), [0, 1]]
        self.caught(first_falling, wrong)
        self.assertSame(wrong, [(0, 1), [0, 1]])


class LeastReaching(StrictCase):
    def test_no_windows(self):
        for version in (0, 1, FORTY):
            with self.subTest(version):
                self.assertIs(least_reaching([], version), None)

    def test_all_short_rising_lists(self):
        for length in (1, 2, 3):
            for windows in itertools.product(SMALL, repeat=length):
                if expected_fall(windows) is None:
                    for version in range(5):
                        with self.subTest(windows=windows, version=version):
                            found = least_reaching(list(windows), version)
                            self.assertSame(found, expected_reach(windows, version))

    def test_rising_lists_of_every_length(self):
        for length in range(1, 41):
            windows = rising_list(length)
            for version in (0, 1, 2, 3, 9, 17, 18, 19, 20, FORTY):
                with self.subTest(length=length, version=version):
                    self.assertSame(least_reaching(windows, version), expected_reach(windows, version))

    def test_the_lower_bound_does_not_matter(self):
        self.assertSame(least_reaching([(5, 9), (6, 9)], 0), 0)
        self.assertSame(least_reaching([(5, None)], 2), 0)

    def test_long_numbers_and_long_lists(self):
        windows = [(0, FORTY - 1), (0, FORTY), (0, FORTY + 1)]
        self.assertSame([least_reaching(windows, FORTY + more) for more in (-2, -1, 0, 1, 2)], [0, 0, 1, 2, None])
        self.assertSame(least_reaching([(at, at) for at in range(800)], 799), 799)
        self.assertIs(least_reaching([(at, at) for at in range(800)], 800), None)

    def test_values_that_are_no_lists(self):
        for value in NO_LISTS:
            with self.subTest(value=repr(value)):
                self.assertFails(InvalidWindows, {"position": None}, least_reaching, value, 1)

    def test_items_that_are_no_windows(self):
        for item in NO_WINDOWS:
            for at in (0, 1, 4):
                with self.subTest(item=repr(item), at=at):
                    windows = [(0, None)] * at + [item] + [(0, None)] * (4 - at)
                    self.assertFails(InvalidWindows, {"position": at}, least_reaching, windows, 1)

    def test_falling_lists(self):
        for length in range(2, 41):
            for at in (1, length // 2, length - 1):
                if at > 0:
                    with self.subTest(length=length, at=at):
                        windows = [(7, None)] * at + [(7, 99)] * (length - at)
                        self.assertFails(InvalidWindows, {"position": at}, least_reaching, windows, 1)
        self.assertFails(InvalidWindows, {"position": 1}, least_reaching, [(5, 9), (4, 9), (3, 9)], 0)

    def test_wrong_versions(self):
        for value in NO_VERSIONS:
            for windows in ([], [(0, 0)], [(0, 1), (0, None)]):
                with self.subTest(value=repr(value), windows=windows):
                    self.assertFails(InvalidVersion, {"value": value}, least_reaching, windows, value)

    def test_the_order_of_the_errors(self):
        for version in (True, -1, None, "1"):
            with self.subTest(version):
                self.assertFails(InvalidWindows, {"position": None}, least_reaching, ((0, 1),), version)
                self.assertFails(InvalidWindows, {"position": 2}, least_reaching, [(1, 2), (0, 1), 5], version)
                self.assertFails(InvalidWindows, {"position": 1}, least_reaching, [(1, 2), (0, 1)], version)
        self.assertFails(InvalidWindows, {"position": 2}, least_reaching, [(1, 2), (0, 1), (0, False)], 0)

    def test_passed_by_name(self):
        self.assertSame(least_reaching(version=2, windows=[(0, 1), (0, 2)]), 1)
        self.assertSame(least_reaching([(0, 1), (0, 2)], version=3), None)

    def test_the_list_stays_as_it_was(self):
        for windows in ([], [(0, 1), (1, 2)], [(0, None), (1, None)]):
            before = list(windows)
            least_reaching(windows, 2)
            self.caught(least_reaching, windows, True)
            self.assertSame(windows, before)
        for wrong in ([(1, 2), (0, 2)], [(0, 1), [0, 1]]):
            before = repr(wrong)
            self.caught(least_reaching, wrong, 1)
            self.assertEqual(repr(wrong), before)


if __name__ == "__main__":
    unittest.main()
