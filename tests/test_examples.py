"""The examples of the document, in its own form, each run by itself."""

import unittest

EXAMPLES = r'''
>>> from groupsteps.errors import NotRising
>>> error = NotRising("core", "store")
>>> [error.user, error.used, isinstance(error, RuntimeError)]
['core', 'store', True]

>>> from groupsteps.names import is_name
>>> [is_name("core"), is_name("Core"), is_name("")]
[True, False, False]

>>> from groupsteps.names import is_version
>>> [is_version(0), is_version(-1), is_version(True)]
[True, False, False]

>>> from groupsteps.windows import is_window
>>> [is_window((0, 2)), is_window((3, None)), is_window((2, 1)), is_window([0, 2])]
[True, True, False, False]

>>> from groupsteps.windows import contains
>>> [contains((1, 3), 3), contains((1, None), 9), contains((1, 3), 0)]
[True, True, False]

>>> from groupsteps.windows import rises
>>> [rises((0, 1), (0, 2)), rises((0, None), (1, 5)), rises((1, 1), (0, 3))]
[True, False, False]

>>> from groupsteps.windows import first_falling
>>> first_falling([(0, 1), (1, 2), (0, 3)])
2

>>> from groupsteps.windows import least_reaching
>>> [least_reaching([(0, 1), (0, 2), (2, None)], 2), least_reaching([(0, 1)], 2)]
[1, None]

>>> from groupsteps.windows import format_window
>>> [format_window((0, 2)), format_window((3, None))]
['0..2', '3..']

>>> from groupsteps.windows import parse_window
>>> parse_window("1..4")
(1, 4)

>>> from groupsteps.windows import parse_window
>>> parse_window("4..1")
raises InvalidText(line=1)
'''


def shown(error):
    attributes = ", ".join(f"{name}={worth!r}" for name, worth in vars(error).items())
    name = error.__class__.__name__
    return f"raises {name}({attributes})" if attributes else f"raises {name}"


def outcome(lines):
    *before, last = [line.removeprefix(">>> ") for line in lines]
    names = {}
    exec("\n".join(before), names)
    try:
        return repr(eval(last, names))
    except Exception as error:
        return shown(error)


class Examples(unittest.TestCase):
    def test_every_example(self):
        blocks = EXAMPLES.strip().split("\n\n")
        self.assertEqual(len(blocks), 11)
        for block in blocks:
            with self.subTest(block):
                *lines, expected = block.split("\n")
                self.assertEqual(outcome(lines), expected)


if __name__ == "__main__":
    unittest.main()
