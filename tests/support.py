"""What several test files share: values of wrong kinds, and a strict check of errors."""

import unittest


class Touchy:
    """A value that must not be compared, measured or turned into a truth value."""

    def __eq__(self, other):
        raise AssertionError("compared")

    __lt__ = __le__ = __gt__ = __ge__ = __ne__ = __eq__
    __hash__ = None

    def __bool__(self):
        raise AssertionError("tested")

    def __len__(self):
        raise AssertionError("measured")


# No version, no name, no window, no string, no list of windows; new objects at each call.
def wrong_kinds():
    return [
        None, True, False, -1, b"", b"a", b"0..1", ["a"], [0], [0, 1], [[0, 1]], ("a",), (0,), (0, 1, 2), (),
        {}, {"a": 1}, {0: 1}, {0, 1}, set(), frozenset(), range(2), object(), Touchy(), int, len,
        ((0, 1),), (0, True), (True, 1), (False, None), ([0, 1],), {"low": 0, "high": 1}, iter([]),
    ]


class StrictCase(unittest.TestCase):
    def assertSame(self, result, expected):
        """Equal, and of the same kinds throughout: True is not 1, a list is no tuple."""
        self.assertEqual(result, expected)
        self.assertEqual(repr(result), repr(expected))

    def caught(self, function, *args, **named):
        try:
            result = function(*args, **named)
        except Exception as error:
            return error
        self.fail(f"no error, but {result!r}")

    def assertFails(self, error_class, attributes, function, *args, **named):
        """Exactly this class, and exactly these attributes, each the very object that is given."""
        error = self.caught(function, *args, **named)
        if error.__class__ is not error_class:
            raise AssertionError(f"{error_class.__name__} expected") from error
        self.assertEqual(sorted(vars(error)), sorted(attributes))
        for name in attributes:
            self.assertIs(getattr(error, name), attributes[name])
