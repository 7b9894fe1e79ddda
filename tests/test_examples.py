"""The examples of the document, in its own form, each run by itself."""

import unittest

EXAMPLES = r'''
>>> from groupsteps.errors import NotRising
>>> error = NotRising("core", "store")
>>> [error.user, error.used, isinstance(error, RuntimeError)]
['core', 'store', True]

>>> from groupsteps.names import is_name
>>> [is_name("core"), is_name("Core"), is_name("")]
[True, False, False]

>>> from groupsteps.names import is_version
>>> [is_version(0), is_version(-1), is_version(True)]
[True, False, False]

>>> from groupsteps.windows import is_window
>>> [is_window((0, 2)), is_window((3, None)), is_window((2, 1)), is_window([0, 2])]
[True, True, False, False]

>>> from groupsteps.windows import contains
>>> [contains((1, 3), 3), contains((1, None), 9), contains((1, 3), 0)]
[True, True, False]

>>> from groupsteps.windows import rises
>>> [rises((0, 1), (0, 2)), rises((0, None), (1, 5)), rises((1, 1), (0, 3))]
[True, False, False]

>>> from groupsteps.windows import first_falling
>>> first_falling([(0, 1), (1, 2), (0, 3)])
2

>>> from groupsteps.windows import least_reaching
>>> [least_reaching([(0, 1), (0, 2), (2, None)], 2), least_reaching([(0, 1)], 2)]
[1, None]

>>> from groupsteps.windows import format_window
>>> [format_window((0, 2)), format_window((3, None))]
['0..2', '3..']

>>> from groupsteps.windows import parse_window
>>> parse_window("1..4")
(1, 4)

>>> from groupsteps.windows import parse_window
>>> parse_window("4..1")
raises InvalidText(line=1)

>>> from groupsteps.catalogs import Catalog
>>> c = Catalog({"core": ("store",), "store": ("core",)})
>>> [c.modules(), c.uses("core"), c.users("core"), c.versions("core")]
[['core', 'store'], ['store'], ['store'], 0]

>>> from groupsteps.catalogs import Catalog
>>> c = Catalog({"core": ("store",), "store": ()})
>>> [c.publish("core", [(0, 1)]), c.publish("core", [(1, None)]), c.window("core", "store", 1)]
[0, 1, (1, None)]

>>> from groupsteps.catalogs import Catalog
>>> c = Catalog({"core": ("store",), "store": ()})
>>> first = c.publish("core", [(1, 2)])
>>> c.publish("core", [(0, 3)])
raises NotRising(user='core', used='store')

>>> from groupsteps.catalogs import Catalog
>>> c = Catalog({"core": ()})
>>> numbers = [c.publish("core", []), c.publish("core", [])]
>>> c.withdraw("core", 0)
>>> [c.available("core"), c.is_available("core", 0), c.versions("core"), c.history()]
[[1], False, 2, [('publish', 'core', ()), ('publish', 'core', ()), ('withdraw', 'core', 0)]]

>>> from groupsteps.catalogs import Catalog
>>> c = Catalog({"core": ()})
>>> d = c.clone()
>>> number = d.publish("core", [])
>>> [c == d, len(c), repr(d)]
[False, 1, "Catalog(modules=['core'], versions=[1])"]

>>> from groupsteps.catalogs import catalog_of
>>> c = catalog_of([("core", ("store",), [[(0, 0)], [(1, 2)]]), ("store", (), [[], [], []])])
>>> [c.versions("core"), c.versions("store"), c.window("core", "store", 1)]
[2, 3, (1, 2)]

>>> from groupsteps.catalogs import catalog_of
>>> from groupsteps.states import first_conflict, is_state
>>> c = catalog_of([("core", ("store",), [[(0, 0)], [(0, 1)], [(1, None)]]), ("store", ("core",), [[(0, 1)], [(1, 2)]]), ("shell", ("core",), [[(0, 1)], [(0, 2)], [(2, None)]])])
>>> [is_state(c, {"core": 1, "store": 1}), first_conflict(c, {"core": 0, "store": 1, "shell": 0})]
[False, ('core', 'store')]

>>> from groupsteps.catalogs import catalog_of
>>> from groupsteps.states import conflicts
>>> c = catalog_of([("core", ("store",), [[(0, 0)], [(0, 1)], [(1, None)]]), ("store", ("core",), [[(0, 1)], [(1, 2)]]), ("shell", ("core",), [[(0, 1)], [(0, 2)], [(2, None)]])])
>>> conflicts(c, {"core": 2, "store": 0, "shell": 0})
[('core', 'store'), ('store', 'core'), ('shell', 'core')]

>>> from groupsteps.catalogs import catalog_of
>>> from groupsteps.states import is_below, lower_state, upper_state
>>> c = catalog_of([("core", ("store",), [[(0, 0)], [(0, 1)], [(1, None)]]), ("store", ("core",), [[(0, 1)], [(1, 2)]]), ("shell", ("core",), [[(0, 1)], [(0, 2)], [(2, None)]])])
>>> x = {"core": 1, "store": 1, "shell": 0}
>>> y = {"core": 1, "store": 0, "shell": 1}
>>> [lower_state(c, x, y), upper_state(c, x, y), is_below(c, x, y)]
[{'core': 1, 'store': 0, 'shell': 0}, {'core': 1, 'store': 1, 'shell': 1}, False]

>>> from groupsteps.catalogs import catalog_of
>>> from groupsteps.demands import is_demand, settled
>>> c = catalog_of([("core", ("store",), [[(0, 0)], [(0, 1)], [(1, None)]]), ("store", ("core",), [[(0, 1)], [(1, 2)]]), ("shell", ("core",), [[(0, 1)], [(0, 2)], [(2, None)]])])
>>> c.withdraw("core", 1)
>>> [settled(c, ("core", 1)), settled(c, ("store", 5)), is_demand(c, ("store", 5)), is_demand(c, ["store", 0])]
[2, None, True, False]

>>> from groupsteps.catalogs import catalog_of
>>> from groupsteps.demands import following
>>> c = catalog_of([("core", ("store",), [[(0, 0)], [(0, 1)], [(1, None)]]), ("store", ("core",), [[(0, 1)], [(1, 2)]]), ("shell", ("core",), [[(0, 1)], [(0, 2)], [(2, None)]])])
>>> [following(c, ("core", 2)), following(c, ("store", 1)), following(c, ("core", 1))]
[[('store', 1), ('shell', 1)], [('core', 1)], []]

>>> from groupsteps.catalogs import catalog_of
>>> from groupsteps.demands import failing_chain, is_chain
>>> c = catalog_of([("core", ("store",), [[(0, 0)], [(0, 1)], [(1, None)]]), ("store", ("core",), [[(0, 1)], [(1, 2)]]), ("shell", ("core",), [[(0, 1)], [(0, 2)], [(2, None)]])])
>>> c.withdraw("core", 2)
>>> [failing_chain(c, ("shell", 2)), failing_chain(c, ("store", 1)), is_chain(c, [("store", 1), ("core", 1)])]
[[('shell', 2), ('core', 2)], None, True]

>>> from groupsteps.catalogs import catalog_of
>>> from groupsteps.demands import demanded
>>> c = catalog_of([("core", ("store",), [[(0, 0)], [(0, 1)], [(1, None)]]), ("store", ("core",), [[(0, 1)], [(1, 2)]]), ("shell", ("core",), [[(0, 1)], [(0, 2)], [(2, None)]])])
>>> demanded(c, ("shell", 2))
{'core': 2, 'store': 1, 'shell': 2}

>>> from groupsteps.catalogs import catalog_of
>>> from groupsteps.least import greatest_state, least_state
>>> c = catalog_of([("core", ("store",), [[(0, 0)], [(0, 1)], [(1, None)]]), ("store", ("core",), [[(0, 1)], [(1, 2)]]), ("shell", ("core",), [[(0, 1)], [(0, 2)], [(2, None)]])])
>>> [least_state(c), greatest_state(c)]
[{'core': 0, 'store': 0, 'shell': 0}, {'core': 2, 'store': 1, 'shell': 2}]

>>> from groupsteps.catalogs import catalog_of
>>> from groupsteps.least import least_state
>>> c = catalog_of([("core", (), [])])
>>> least_state(c)
raises NoState(chain=[('core', 0)])

>>> from groupsteps.catalogs import catalog_of
>>> from groupsteps.least import greatest_with, least_with
>>> c = catalog_of([("core", ("store",), [[(0, 0)], [(0, 1)], [(1, None)]]), ("store", ("core",), [[(0, 1)], [(1, 2)]]), ("shell", ("core",), [[(0, 1)], [(0, 2)], [(2, None)]])])
>>> [least_with(c, "store", 1), greatest_with(c, "core", 1)]
[{'core': 1, 'store': 1, 'shell': 0}, {'core': 1, 'store': 1, 'shell': 1}]

>>> from groupsteps.catalogs import catalog_of
>>> from groupsteps.least import least_with
>>> c = catalog_of([("core", ("store",), [[(0, 0)], [(0, 1)], [(1, None)]]), ("store", ("core",), [[(0, 1)], [(1, 2)]]), ("shell", ("core",), [[(0, 1)], [(0, 2)], [(2, None)]])])
>>> c.withdraw("core", 2)
>>> least_with(c, "shell", 2)
raises Unreachable(chain=[('shell', 2), ('core', 2)])

>>> from groupsteps.catalogs import catalog_of
>>> from groupsteps.least import least_meeting
>>> c = catalog_of([("core", ("store",), [[(0, 0)], [(0, 1)], [(1, None)]]), ("store", ("core",), [[(0, 1)], [(1, 2)]]), ("shell", ("core",), [[(0, 1)], [(0, 2)], [(2, None)]])])
>>> [least_meeting(c), least_meeting(c, store=1, shell=1)]
[{'core': 0, 'store': 0, 'shell': 0}, {'core': 1, 'store': 1, 'shell': 1}]

>>> from groupsteps.catalogs import catalog_of
>>> from groupsteps.least import why
>>> c = catalog_of([("core", ("store",), [[(0, 0)], [(0, 1)], [(1, None)]]), ("store", ("core",), [[(0, 1)], [(1, 2)]]), ("shell", ("core",), [[(0, 1)], [(0, 2)], [(2, None)]])])
>>> [why(c, "shell", 2, "store"), why(c, "store", 1, "shell")]
[[('shell', 2), ('core', 2), ('store', 1)], None]
'''


def shown(error):
    attributes = ", ".join(f"{name}={worth!r}" for name, worth in vars(error).items())
    name = error.__class__.__name__
    return f"raises {name}({attributes})" if attributes else f"raises {name}"


def outcome(lines):
    *before, last = [line.removeprefix(">>> ") for line in lines]
    names = {}
    exec("\n".join(before), names)
    try:
        return repr(eval(last, names))
    except Exception as error:
        return shown(error)


class Examples(unittest.TestCase):
    def test_every_example(self):
        blocks = EXAMPLES.strip().split("\n\n")
        self.assertEqual(len(blocks), 30)
        for block in blocks:
            with self.subTest(block):
                *lines, expected = block.split("\n")
                self.assertEqual(outcome(lines), expected)


if __name__ == "__main__":
    unittest.main()
