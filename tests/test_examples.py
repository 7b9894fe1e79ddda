"""The examples of the document, in its own form, each run by itself."""

import unittest

EXAMPLES = r'''
>>> from groupsteps.errors import NotRising
>>> error = NotRising("core", "store")
>>> [error.user, error.used, isinstance(error, RuntimeError)]
['core', 'store', True]

>>> from groupsteps.names import is_name
>>> [is_name("core"), is_name("Core"), is_name("")]
[True, False, False]

>>> from groupsteps.names import is_version
>>> [is_version(0), is_version(-1), is_version(True)]
[True, False, False]

>>> from groupsteps.windows import is_window
>>> [is_window((0, 2)), is_window((3, None)), is_window((2, 1)), is_window([0, 2])]
[True, True, False, False]

>>> from groupsteps.windows import contains
>>> [contains((1, 3), 3), contains((1, None), 9), contains((1, 3), 0)]
[True, True, False]

>>> from groupsteps.windows import rises
>>> [rises((0, 1), (0, 2)), rises((0, None), (1, 5)), rises((1, 1), (0, 3))]
[True, False, False]

>>> from groupsteps.windows import first_falling
>>> first_falling([(0, 1), (1, 2), (0, 3)])
2

>>> from groupsteps.windows import least_reaching
>>> [least_reaching([(0, 1), (0, 2), (2, None)], 2), least_reaching([(0, 1)], 2)]
[1, None]

>>> from groupsteps.windows import format_window
>>> [format_window((0, 2)), format_window((3, None))]
['0..2', '3..']

>>> from groupsteps.windows import parse_window
>>> parse_window("1..4")
(1, 4)

>>> from groupsteps.windows import parse_window
>>> parse_window("4..1")
raises InvalidText(line=1)

>>> from groupsteps.catalogs import Catalog
>>> c = Catalog({"core": ("store",), "store": ("core",)})
>>> [c.modules(), c.uses("core"), c.users("core"), c.versions("core")]
[['core', 'store'], ['store'], ['store'], 0]

>>> from groupsteps.catalogs import Catalog
>>> c = Catalog({"core": ("store",), "store": ()})
>>> [c.publish("core", [(0, 1)]), c.publish("core", [(1, None)]), c.window("core", "store", 1)]
[0, 1, (1, None)]

>>> from groupsteps.catalogs import Catalog
>>> c = Catalog({"core": ("store",), "store": ()})
>>> first = c.publish("core", [(1, 2)])
>>> c.publish("core", [(0, 3)])
raises NotRising(user='core', used='store')

>>> from groupsteps.catalogs import Catalog
>>> c = Catalog({"core": ()})
>>> numbers = [c.publish("core", []), c.publish("core", [])]
>>> c.withdraw("core", 0)
>>> [c.available("core"), c.is_available("core", 0), c.versions("core"), c.history()]
[[1], False, 2, [('publish', 'core', ()), ('publish', 'core', ()), ('withdraw', 'core', 0)]]

>>> from groupsteps.catalogs import Catalog
>>> c = Catalog({"core": ()})
>>> d = c.clone()
>>> number = d.publish("core", [])
>>> [c == d, len(c), repr(d)]
[False, 1, "Catalog(modules=['core'], versions=[1])"]

>>> from groupsteps.catalogs import catalog_of
>>> c = catalog_of([("core", ("store",), [[(0, 0)], [(1, 2)]]), ("store", (), [[], [], []])])
>>> [c.versions("core"), c.versions("store"), c.window("core", "store", 1)]
[2, 3, (1, 2)]

>>> from groupsteps.catalogs import catalog_of
>>> from groupsteps.states import first_conflict, is_state
>>> c = catalog_of([("core", ("store",), [[(0, 0)], [(0, 1)], [(1, None)]]), ("store", ("core",), [[(0, 1)], [(1, 2)]]), ("shell", ("core",), [[(0, 1)], [(0, 2)], [(2, None)]])])
>>> [is_state(c, {"core": 1, "store": 1}), first_conflict(c, {"core": 0, "store": 1, "shell": 0})]
[False, ('core', 'store')]

>>> from groupsteps.catalogs import catalog_of
>>> from groupsteps.states import conflicts
>>> c = catalog_of([("core", ("store",), [[(0, 0)], [(0, 1)], [(1, None)]]), ("store", ("core",), [[(0, 1)], [(1, 2)]]), ("shell", ("core",), [[(0, 1)], [(0, 2)], [(2, None)]])])
>>> conflicts(c, {"core": 2, "store": 0, "shell": 0})
[('core', 'store'), ('store', 'core'), ('shell', 'core')]

>>> from groupsteps.catalogs import catalog_of
>>> from groupsteps.states import is_below, lower_state, upper_state
>>> c = catalog_of([("core", ("store",), [[(0, 0)], [(0, 1)], [(1, None)]]), ("store", ("core",), [[(0, 1)], [(1, 2)]]), ("shell", ("core",), [[(0, 1)], [(0, 2)], [(2, None)]])])
>>> x = {"core": 1, "store": 1, "shell": 0}
>>> y = {"core": 1, "store": 0, "shell": 1}
>>> [lower_state(c, x, y), upper_state(c, x, y), is_below(c, x, y)]
[{'core': 1, 'store': 0, 'shell': 0}, {'core': 1, 'store': 1, 'shell': 1}, False]

>>> from groupsteps.catalogs import catalog_of
>>> from groupsteps.demands import is_demand, settled
>>> c = catalog_of([("core", ("store",), [[(0, 0)], [(0, 1)], [(1, None)]]), ("store", ("core",), [[(0, 1)], [(1, 2)]]), ("shell", ("core",), [[(0, 1)], [(0, 2)], [(2, None)]])])
>>> c.withdraw("core", 1)
>>> [settled(c, ("core", 1)), settled(c, ("store", 5)), is_demand(c, ("store", 5)), is_demand(c, ["store", 0])]
[2, None, True, False]

>>> from groupsteps.catalogs import catalog_of
>>> from groupsteps.demands import following
>>> c = catalog_of([("core", ("store",), [[(0, 0)], [(0, 1)], [(1, None)]]), ("store", ("core",), [[(0, 1)], [(1, 2)]]), ("shell", ("core",), [[(0, 1)], [(0, 2)], [(2, None)]])])
>>> [following(c, ("core", 2)), following(c, ("store", 1)), following(c, ("core", 1))]
[[('store', 1), ('shell', 1)], [('core', 1)], []]

>>> from groupsteps.catalogs import catalog_of
>>> from groupsteps.demands import failing_chain, is_chain
>>> c = catalog_of([("core", ("store",), [[(0, 0)], [(0, 1)], [(1, None)]]), ("store", ("core",), [[(0, 1)], [(1, 2)]]), ("shell", ("core",), [[(0, 1)], [(0, 2)], [(2, None)]])])
>>> c.withdraw("core", 2)
>>> [failing_chain(c, ("shell", 2)), failing_chain(c, ("store", 1)), is_chain(c, [("store", 1), ("core", 1)])]
[[('shell', 2), ('core', 2)], None, True]

>>> from groupsteps.catalogs import catalog_of
>>> from groupsteps.demands import demanded
>>> c = catalog_of([("core", ("store",), [[(0, 0)], [(0, 1)], [(1, None)]]), ("store", ("core",), [[(0, 1)], [(1, 2)]]), ("shell", ("core",), [[(0, 1)], [(0, 2)], [(2, None)]])])
>>> demanded(c, ("shell", 2))
{'core': 2, 'store': 1, 'shell': 2}

>>> from groupsteps.catalogs import catalog_of
>>> from groupsteps.least import greatest_state, least_state
>>> c = catalog_of([("core", ("store",), [[(0, 0)], [(0, 1)], [(1, None)]]), ("store", ("core",), [[(0, 1)], [(1, 2)]]), ("shell", ("core",), [[(0, 1)], [(0, 2)], [(2, None)]])])
>>> [least_state(c), greatest_state(c)]
[{'core': 0, 'store': 0, 'shell': 0}, {'core': 2, 'store': 1, 'shell': 2}]

>>> from groupsteps.catalogs import catalog_of
>>> from groupsteps.least import least_state
>>> c = catalog_of([("core", (), [])])
>>> least_state(c)
raises NoState(chain=[('core', 0)])

>>> from groupsteps.catalogs import catalog_of
>>> from groupsteps.least import greatest_with, least_with
>>> c = catalog_of([("core", ("store",), [[(0, 0)], [(0, 1)], [(1, None)]]), ("store", ("core",), [[(0, 1)], [(1, 2)]]), ("shell", ("core",), [[(0, 1)], [(0, 2)], [(2, None)]])])
>>> [least_with(c, "store", 1), greatest_with(c, "core", 1)]
[{'core': 1, 'store': 1, 'shell': 0}, {'core': 1, 'store': 1, 'shell': 1}]

>>> from groupsteps.catalogs import catalog_of
>>> from groupsteps.least import least_with
>>> c = catalog_of([("core", ("store",), [[(0, 0)], [(0, 1)], [(1, None)]]), ("store", ("core",), [[(0, 1)], [(1, 2)]]), ("shell", ("core",), [[(0, 1)], [(0, 2)], [(2, None)]])])
>>> c.withdraw("core", 2)
>>> least_with(c, "shell", 2)
raises Unreachable(chain=[('shell', 2), ('core', 2)])

>>> from groupsteps.catalogs import catalog_of
>>> from groupsteps.least import least_meeting
>>> c = catalog_of([("core", ("store",), [[(0, 0)], [(0, 1)], [(1, None)]]), ("store", ("core",), [[(0, 1)], [(1, 2)]]), ("shell", ("core",), [[(0, 1)], [(0, 2)], [(2, None)]])])
>>> [least_meeting(c), least_meeting(c, store=1, shell=1)]
[{'core': 0, 'store': 0, 'shell': 0}, {'core': 1, 'store': 1, 'shell': 1}]

>>> from groupsteps.catalogs import catalog_of
>>> from groupsteps.least import why
>>> c = catalog_of([("core", ("store",), [[(0, 0)], [(0, 1)], [(1, None)]]), ("store", ("core",), [[(0, 1)], [(1, 2)]]), ("shell", ("core",), [[(0, 1)], [(0, 2)], [(2, None)]])])
>>> [why(c, "shell", 2, "store"), why(c, "store", 1, "shell")]
[[('shell', 2), ('core', 2), ('store', 1)], None]

>>> from groupsteps.catalogs import catalog_of
>>> from groupsteps.steps import all_steps
>>> c = catalog_of([("core", ("store",), [[(0, 0)], [(0, 1)], [(1, None)]]), ("store", ("core",), [[(0, 1)], [(1, 2)]]), ("shell", ("core",), [[(0, 1)], [(0, 2)], [(2, None)]])])
>>> [all_steps(c), all_steps(c, module="store")]
[[(('core', 0, 1),), (('core', 1, 2),), (('store', 0, 1),), (('shell', 0, 1),), (('shell', 1, 2),)], [(('store', 0, 1),)]]

>>> from groupsteps.catalogs import catalog_of
>>> from groupsteps.steps import all_steps
>>> p = catalog_of([("core", ("store",), [[(0, 0)], [(1, 2)]]), ("store", ("core",), [[(0, 0)], [(1, None)]])])
>>> all_steps(p)
[(('core', 0, 1), ('store', 0, 1))]

>>> from groupsteps.catalogs import catalog_of
>>> from groupsteps.steps import all_steps
>>> c = catalog_of([("core", ("store",), [[(0, 0)], [(0, 1)], [(1, None)]]), ("store", ("core",), [[(0, 1)], [(1, 2)]]), ("shell", ("core",), [[(0, 1)], [(0, 2)], [(2, None)]])])
>>> c.withdraw("core", 1)
>>> all_steps(c)
[(('core', 0, 2), ('store', 0, 1)), (('shell', 0, 1),), (('shell', 1, 2),)]

>>> from groupsteps.catalogs import catalog_of
>>> from groupsteps.steps import is_step, step_to
>>> p = catalog_of([("core", ("store",), [[(0, 0)], [(1, 2)]]), ("store", ("core",), [[(0, 0)], [(1, None)]])])
>>> [step_to(p, "store", 1), is_step(p, (("core", 0, 1),))]
[(('core', 0, 1), ('store', 0, 1)), False]

>>> from groupsteps.catalogs import catalog_of
>>> from groupsteps.steps import end_of, start_of
>>> c = catalog_of([("core", ("store",), [[(0, 0)], [(0, 1)], [(1, None)]]), ("store", ("core",), [[(0, 1)], [(1, 2)]]), ("shell", ("core",), [[(0, 1)], [(0, 2)], [(2, None)]])])
>>> step = (("core", 1, 2),)
>>> [start_of(c, step), end_of(c, step)]
[{'core': 1, 'store': 1, 'shell': 1}, {'core': 2, 'store': 1, 'shell': 1}]

>>> from groupsteps.catalogs import catalog_of
>>> from groupsteps.steps import direct_needs, needs
>>> c = catalog_of([("core", ("store",), [[(0, 0)], [(0, 1)], [(1, None)]]), ("store", ("core",), [[(0, 1)], [(1, 2)]]), ("shell", ("core",), [[(0, 1)], [(0, 2)], [(2, None)]])])
>>> step = (("core", 1, 2),)
>>> [needs(c, step), direct_needs(c, step)]
[[(('core', 0, 1),), (('store', 0, 1),), (('shell', 0, 1),)], [(('store', 0, 1),), (('shell', 0, 1),)]]

>>> from groupsteps.catalogs import catalog_of
>>> from groupsteps.steps import needed_by
>>> c = catalog_of([("core", ("store",), [[(0, 0)], [(0, 1)], [(1, None)]]), ("store", ("core",), [[(0, 1)], [(1, 2)]]), ("shell", ("core",), [[(0, 1)], [(0, 2)], [(2, None)]])])
>>> needed_by(c, (("core", 0, 1),))
[(('core', 1, 2),), (('store', 0, 1),), (('shell', 1, 2),)]

>>> from groupsteps.catalogs import catalog_of
>>> from groupsteps.steps import why_together
>>> p = catalog_of([("core", ("store",), [[(0, 0)], [(1, 2)]]), ("store", ("core",), [[(0, 0)], [(1, None)]])])
>>> why_together(p, (("core", 0, 1), ("store", 0, 1)), "core", "store")
([('core', 1), ('store', 1)], [('store', 1), ('core', 1)])

>>> from groupsteps.catalogs import catalog_of
>>> from groupsteps.plans import available_steps, done_steps
>>> c = catalog_of([("core", ("store",), [[(0, 0)], [(0, 1)], [(1, None)]]), ("store", ("core",), [[(0, 1)], [(1, 2)]]), ("shell", ("core",), [[(0, 1)], [(0, 2)], [(2, None)]])])
>>> state = {"core": 1, "store": 0, "shell": 1}
>>> [done_steps(c, state), available_steps(c, state)]
[[(('core', 0, 1),), (('shell', 0, 1),)], [(('store', 0, 1),)]]

>>> from groupsteps.catalogs import catalog_of
>>> from groupsteps.plans import difference
>>> c = catalog_of([("core", ("store",), [[(0, 0)], [(0, 1)], [(1, None)]]), ("store", ("core",), [[(0, 1)], [(1, 2)]]), ("shell", ("core",), [[(0, 1)], [(0, 2)], [(2, None)]])])
>>> difference(c, {"core": 0, "store": 0, "shell": 1}, {"core": 2, "store": 1, "shell": 1})
[(('core', 0, 1),), (('core', 1, 2),), (('store', 0, 1),)]

>>> from groupsteps.catalogs import catalog_of
>>> from groupsteps.plans import state_with
>>> c = catalog_of([("core", ("store",), [[(0, 0)], [(0, 1)], [(1, None)]]), ("store", ("core",), [[(0, 1)], [(1, 2)]]), ("shell", ("core",), [[(0, 1)], [(0, 2)], [(2, None)]])])
>>> state_with(c, [(("store", 0, 1),), (("core", 0, 1),)])
{'core': 1, 'store': 1, 'shell': 0}

>>> from groupsteps.catalogs import catalog_of
>>> from groupsteps.plans import state_with
>>> c = catalog_of([("core", ("store",), [[(0, 0)], [(0, 1)], [(1, None)]]), ("store", ("core",), [[(0, 1)], [(1, 2)]]), ("shell", ("core",), [[(0, 1)], [(0, 2)], [(2, None)]])])
>>> state_with(c, [(("shell", 0, 1),), (("store", 0, 1),)])
raises MissingNeed(step=(('store', 0, 1),))

>>> from groupsteps.catalogs import catalog_of
>>> from groupsteps.plans import plan_for, target_state
>>> c = catalog_of([("core", ("store",), [[(0, 0)], [(0, 1)], [(1, None)]]), ("store", ("core",), [[(0, 1)], [(1, 2)]]), ("shell", ("core",), [[(0, 1)], [(0, 2)], [(2, None)]])])
>>> state = {"core": 0, "store": 0, "shell": 0}
>>> [target_state(c, state, [("shell", 2)]), plan_for(c, state, [("shell", 2)])]
[{'core': 2, 'store': 1, 'shell': 2}, [(('core', 0, 1),), (('store', 0, 1),), (('shell', 0, 1),), (('core', 1, 2),), (('shell', 1, 2),)]]

>>> from groupsteps.catalogs import catalog_of
>>> from groupsteps.plans import walk, ways
>>> c = catalog_of([("core", ("store",), [[(0, 0)], [(0, 1)], [(1, None)]]), ("store", ("core",), [[(0, 1)], [(1, 2)]]), ("shell", ("core",), [[(0, 1)], [(0, 2)], [(2, None)]])])
>>> low = {"core": 0, "store": 0, "shell": 0}
>>> [list(walk(c, low, [("core", 1)])), list(ways(c, low, {"core": 1, "store": 0, "shell": 1}))]
[[((('core', 0, 1),), {'core': 1, 'store': 0, 'shell': 0})], [[(('core', 0, 1),), (('shell', 0, 1),)], [(('shell', 0, 1),), (('core', 0, 1),)]]]

>>> from groupsteps.catalogs import catalog_of
>>> from groupsteps.plans import is_plan, state_after
>>> c = catalog_of([("core", ("store",), [[(0, 0)], [(0, 1)], [(1, None)]]), ("store", ("core",), [[(0, 1)], [(1, 2)]]), ("shell", ("core",), [[(0, 1)], [(0, 2)], [(2, None)]])])
>>> state = {"core": 0, "store": 0, "shell": 0}
>>> steps = [(("core", 0, 1),), (("store", 0, 1),)]
>>> [state_after(c, state, steps), is_plan(c, state, steps[::-1])]
[{'core': 1, 'store': 1, 'shell': 0}, False]

>>> from groupsteps.catalogs import catalog_of
>>> from groupsteps.plans import longest_sequence, rounds
>>> c = catalog_of([("core", ("store",), [[(0, 0)], [(0, 1)], [(1, None)]]), ("store", ("core",), [[(0, 1)], [(1, 2)]]), ("shell", ("core",), [[(0, 1)], [(0, 2)], [(2, None)]])])
>>> state = {"core": 0, "store": 0, "shell": 0}
>>> [rounds(c, state, [("shell", 2)]), longest_sequence(c, state, [("shell", 2)])]
[[[(('core', 0, 1),), (('shell', 0, 1),)], [(('store', 0, 1),)], [(('core', 1, 2),)], [(('shell', 1, 2),)]], [(('core', 0, 1),), (('store', 0, 1),), (('core', 1, 2),), (('shell', 1, 2),)]]

>>> from groupsteps.catalogs import catalog_of
>>> from groupsteps.systems import System
>>> c = catalog_of([("core", ("store",), [[(0, 0)], [(0, 1)], [(1, None)]]), ("store", ("core",), [[(0, 1)], [(1, 2)]]), ("shell", ("core",), [[(0, 1)], [(0, 2)], [(2, None)]])])
>>> s = System.meeting(c, ("store", 1), ("shell", 1))
>>> [str(s), System.state_text({"b": 2, "a": 0}), System.MOST_GOALS]
['core=1 store=1 shell=1', 'b=2 a=0', 12]

>>> from groupsteps.catalogs import catalog_of
>>> from groupsteps.systems import System
>>> c = catalog_of([("core", ("store",), [[(0, 0)], [(0, 1)], [(1, None)]]), ("store", ("core",), [[(0, 1)], [(1, 2)]]), ("shell", ("core",), [[(0, 1)], [(0, 2)], [(2, None)]])])
>>> s = System(c)
>>> first = s.progress
>>> s.perform((("core", 0, 1),))
>>> [first, s.progress]
[(0, 5), (1, 5)]

>>> from groupsteps.catalogs import catalog_of
>>> from groupsteps.systems import System
>>> c = catalog_of([("core", ("store",), [[(0, 0)], [(0, 1)], [(1, None)]]), ("store", ("core",), [[(0, 1)], [(1, 2)]]), ("shell", ("core",), [[(0, 1)], [(0, 2)], [(2, None)]])])
>>> s = System(c)
>>> s.perform((("shell", 0, 1),))
>>> [s.state(), s.available(), s.entries()]
[{'core': 0, 'store': 0, 'shell': 1}, [(('core', 0, 1),)], [('perform', (('shell', 0, 1),))]]

>>> from groupsteps.catalogs import catalog_of
>>> from groupsteps.systems import System
>>> c = catalog_of([("core", ("store",), [[(0, 0)], [(0, 1)], [(1, None)]]), ("store", ("core",), [[(0, 1)], [(1, 2)]]), ("shell", ("core",), [[(0, 1)], [(0, 2)], [(2, None)]])])
>>> s = System(c)
>>> s.pin("core", 0)
>>> s.perform((("core", 0, 1),))
raises Pinned(module='core', version=0)

>>> from groupsteps.catalogs import catalog_of
>>> from groupsteps.systems import System
>>> c = catalog_of([("core", ("store",), [[(0, 0)], [(0, 1)], [(1, None)]]), ("store", ("core",), [[(0, 1)], [(1, 2)]]), ("shell", ("core",), [[(0, 1)], [(0, 2)], [(2, None)]])])
>>> s = System(c)
>>> s.add_goal("ann", "core", 1)
>>> s.drop_goals("ann")
>>> s.pin("core", 1)
>>> s.unpin("core")
>>> [s.operators(), s.pins(), s.start()[1], len(s)]
[[], {}, {'core': 0, 'store': 0, 'shell': 0}, 4]

>>> from groupsteps.catalogs import catalog_of
>>> from groupsteps.systems import System
>>> c = catalog_of([("core", ("store",), [[(0, 0)], [(0, 1)], [(1, None)]]), ("store", ("core",), [[(0, 1)], [(1, 2)]]), ("shell", ("core",), [[(0, 1)], [(0, 2)], [(2, None)]])])
>>> s = System(c)
>>> s.add_goal("ann", "store", 1)
>>> s.add_goal("bob", "shell", 1)
>>> s.pin("core", 0)
>>> [s.operators(), s.goals("ann"), s.blocked("ann"), s.blocked("bob"), s.plan()]
[['ann', 'bob'], [('store', 1)], [('store', 1)], [], [(('core', 0, 1),), (('store', 0, 1),), (('shell', 0, 1),)]]

>>> from groupsteps.catalogs import catalog_of
>>> from groupsteps.systems import System
>>> c = catalog_of([("core", ("store",), [[(0, 0)], [(0, 1)], [(1, None)]]), ("store", ("core",), [[(0, 1)], [(1, 2)]]), ("shell", ("core",), [[(0, 1)], [(0, 2)], [(2, None)]])])
>>> s = System(c)
>>> s.add_goal("ann", "store", 1)
>>> s.add_goal("bob", "core", 1)
>>> [s.run("ann"), s.run("bob"), str(s)]
[[(('core', 0, 1),), (('store', 0, 1),)], [], 'core=1 store=1 shell=0']

>>> from groupsteps.catalogs import catalog_of
>>> from groupsteps.systems import System
>>> c = catalog_of([("core", ("store",), [[(0, 0)], [(0, 1)], [(1, None)]]), ("store", ("core",), [[(0, 1)], [(1, 2)]]), ("shell", ("core",), [[(0, 1)], [(0, 2)], [(2, None)]])])
>>> s = System(c, {"core": 2, "store": 1, "shell": 1})
>>> undone = s.retreat("store", 0)
>>> first = str(s)
>>> s.undo()
>>> [undone, first, str(s)]
[[(('core', 1, 2),), (('store', 0, 1),)], 'core=1 store=0 shell=1', 'core=2 store=1 shell=1']

>>> from groupsteps.catalogs import catalog_of
>>> from groupsteps.systems import System
>>> c = catalog_of([("core", ("store",), [[(0, 0)], [(0, 1)], [(1, None)]]), ("store", ("core",), [[(0, 1)], [(1, 2)]]), ("shell", ("core",), [[(0, 1)], [(0, 2)], [(2, None)]])])
>>> s = System(c)
>>> t = s.clone()
>>> t.pin("core", 1)
>>> [s == t, len(t), repr(t), t.pins()]
[False, 1, 'System(core=0 store=0 shell=0)', {'core': 1}]

>>> from groupsteps.catalogs import catalog_of
>>> from groupsteps.histories import attempt
>>> from groupsteps.runtimes import Runtime
>>> c = catalog_of([("core", ("store",), [[(0, 0)], [(0, 1)], [(1, None)]]), ("store", ("core",), [[(0, 1)], [(1, 2)]]), ("shell", ("core",), [[(0, 1)], [(0, 2)], [(2, None)]])])
>>> r = Runtime(c)
>>> results = attempt(r, ("limit", 1), ("begin", "x"))
>>> r.begin("y")
raises TooMany(kind='sessions', limit=1)

>>> from groupsteps.catalogs import catalog_of
>>> from groupsteps.runtimes import Runtime
>>> c = catalog_of([("core", ("store",), [[(0, 0)], [(0, 1)], [(1, None)]]), ("store", ("core",), [[(0, 1)], [(1, 2)]]), ("shell", ("core",), [[(0, 1)], [(0, 2)], [(2, None)]])])
>>> r = Runtime(c)
>>> r.begin("x")
>>> r.perform((("core", 0, 1),))
>>> r.begin("y")
>>> [r.sessions(), r.session_state("x"), r.advance("x"), r.session_state("x")]
[['x', 'y'], {'core': 0, 'store': 0, 'shell': 0}, [(('core', 0, 1),)], {'core': 1, 'store': 0, 'shell': 0}]

>>> from groupsteps.catalogs import catalog_of
>>> from groupsteps.runtimes import Runtime
>>> c = catalog_of([("core", ("store",), [[(0, 0)], [(0, 1)], [(1, None)]]), ("store", ("core",), [[(0, 1)], [(1, 2)]]), ("shell", ("core",), [[(0, 1)], [(0, 2)], [(2, None)]])])
>>> r = Runtime(c)
>>> r.perform((("shell", 0, 1),))
>>> r.begin("x")
>>> undone = r.retreat("core", 0)
>>> r.undo(count=2)
>>> r.perform((("core", 0, 1),))
>>> r.begin("y")
>>> [r.talk("x", "y"), r.state()]
[{'core': 1, 'store': 0, 'shell': 1}, {'core': 1, 'store': 0, 'shell': 0}]

>>> from groupsteps.catalogs import catalog_of
>>> from groupsteps.runtimes import Runtime
>>> c = catalog_of([("core", ("store",), [[(0, 0)], [(0, 1)], [(1, None)]]), ("store", ("core",), [[(0, 1)], [(1, 2)]]), ("shell", ("core",), [[(0, 1)], [(0, 2)], [(2, None)]])])
>>> r = Runtime(c)
>>> r.begin("x")
>>> r.perform((("shell", 0, 1),))
>>> number = r.publish("shell", [(2, None)])
>>> [number, r.running("shell"), r.catalog().versions("shell"), c.versions("shell")]
[3, [0, 1], 4, 3]

>>> from groupsteps.catalogs import catalog_of
>>> from groupsteps.runtimes import Runtime
>>> c = catalog_of([("core", ("store",), [[(0, 0)], [(0, 1)], [(1, None)]]), ("store", ("core",), [[(0, 1)], [(1, 2)]]), ("shell", ("core",), [[(0, 1)], [(0, 2)], [(2, None)]])])
>>> r = Runtime(c)
>>> r.begin("x")
>>> r.perform((("shell", 0, 1),))
>>> r.withdraw("shell", 0)
raises InUse(module='shell', version=0)

>>> from groupsteps.catalogs import catalog_of
>>> from groupsteps.runtimes import Runtime
>>> from groupsteps.systems import System
>>> c = catalog_of([("core", ("store",), [[(0, 0)], [(0, 1)], [(1, None)]]), ("store", ("core",), [[(0, 1)], [(1, 2)]]), ("shell", ("core",), [[(0, 1)], [(0, 2)], [(2, None)]])])
>>> r = Runtime(c)
>>> q = r.clone()
>>> q.begin("x")
>>> q.finish("x")
>>> [r == q, r == System(c), len(q), repr(q)]
[True, False, 2, 'Runtime(core=0 store=0 shell=0)']

>>> from groupsteps.catalogs import catalog_of
>>> from groupsteps.changes import compare
>>> c = catalog_of([("core", ("store",), [[(0, 0)], [(0, 1)], [(1, None)]]), ("store", ("core",), [[(0, 1)], [(1, 2)]]), ("shell", ("core",), [[(0, 1)], [(0, 2)], [(2, None)]])])
>>> d = c.clone()
>>> d.withdraw("core", 1)
>>> compare(c, d)
([(('shell', 0, 1),), (('shell', 1, 2),)], [((('core', 0, 2), ('store', 0, 1)), [(('core', 0, 1),), (('core', 1, 2),), (('store', 0, 1),)])], [], [])

>>> from groupsteps.catalogs import catalog_of
>>> from groupsteps.changes import compare
>>> c = catalog_of([("core", ("store",), [[(0, 0)], [(0, 1)], [(1, None)]]), ("store", ("core",), [[(0, 1)], [(1, 2)]]), ("shell", ("core",), [[(0, 1)], [(0, 2)], [(2, None)]])])
>>> d = c.clone()
>>> number = d.publish("core", [(1, None)])
>>> d.withdraw("core", 2)
>>> compare(c, d)
([(('core', 0, 1),), (('store', 0, 1),), (('shell', 0, 1),)], [], [], [(('core', 1, 2),), (('shell', 1, 2),)])

>>> from groupsteps.texts import format_step, parse_step
>>> [format_step((("core", 0, 1), ("store", 0, 2))), parse_step("a:3:4")]
['core:0:1,store:0:2', (('a', 3, 4),)]

>>> from groupsteps.catalogs import catalog_of
>>> from groupsteps.texts import format_catalog
>>> format_catalog(catalog_of([("core", ("store",), [[(0, 0)]]), ("store", (), [[], []])]))
'module core store\nmodule store\npublish core 0..0\npublish store\npublish store\n'

>>> from groupsteps.texts import parse_catalog
>>> c = parse_catalog("module core store\nmodule store\npublish core 0..\npublish store\nwithdraw store 0\n")
>>> [c.modules(), c.window("core", "store", 0), c.available("store")]
[['core', 'store'], (0, None), []]

>>> from groupsteps.texts import parse_catalog
>>> parse_catalog("module core store\nmodule shell\n")
raises InvalidText(line=1)

>>> from groupsteps.catalogs import catalog_of
>>> from groupsteps.histories import save
>>> from groupsteps.runtimes import Runtime
>>> r = Runtime(catalog_of([("core", (), [[], []])]))
>>> r.perform((("core", 0, 1),))
>>> r.add_goal("ann", "core", 1)
>>> save(r)
'module core\npublish core\npublish core\nstate 0\nperform core:0:1\ngoal ann core 1\n'

>>> from groupsteps.histories import load
>>> r = load("module core\npublish core\npublish core\nstate 0\nperform core:0:1\nundo 1\n")
>>> [r.state(), r.entries()]
[{'core': 0}, [('perform', (('core', 0, 1),)), ('undo', 1)]]

>>> from groupsteps.histories import load
>>> load("module core\npublish core\nstate 0\nundo 1\n")
raises InvalidText(line=4)

>>> from groupsteps.catalogs import catalog_of
>>> from groupsteps.histories import attempt
>>> from groupsteps.runtimes import Runtime
>>> c = catalog_of([("core", ("store",), [[(0, 0)], [(0, 1)], [(1, None)]]), ("store", ("core",), [[(0, 1)], [(1, 2)]]), ("shell", ("core",), [[(0, 1)], [(0, 2)], [(2, None)]])])
>>> r = Runtime(c)
>>> results = attempt(r, ("goal", "ann", "store", 1), ("run", "ann"), ("limit", 3))
>>> [results, r.session_limit, len(r)]
[[None, [(('core', 0, 1),), (('store', 0, 1),)], None], 3, 3]

>>> from groupsteps.catalogs import catalog_of
>>> from groupsteps.histories import attempt
>>> from groupsteps.runtimes import Runtime
>>> c = catalog_of([("core", ("store",), [[(0, 0)], [(0, 1)], [(1, None)]]), ("store", ("core",), [[(0, 1)], [(1, 2)]]), ("shell", ("core",), [[(0, 1)], [(0, 2)], [(2, None)]])])
>>> r = Runtime(c)
>>> attempt(r, ("perform", (("core", 0, 1),)), ("undo", 2))
raises NothingToUndo

>>> from groupsteps.catalogs import catalog_of
>>> from groupsteps.console import Console
>>> c = catalog_of([("core", ("store",), [[(0, 0)], [(0, 1)], [(1, None)]]), ("store", ("core",), [[(0, 1)], [(1, 2)]]), ("shell", ("core",), [[(0, 1)], [(0, 2)], [(2, None)]])])
>>> k = Console(c)
>>> k.run(["goal ann store 1", "run ann", "state", "why shell 2 store", "available"])
['ok', 'core:0:1 store:0:1', 'core=1 store=1 shell=0', 'shell:2 core:2 store:1', 'shell:0:1']

>>> from groupsteps.catalogs import catalog_of
>>> from groupsteps.console import Console
>>> c = catalog_of([("core", ("store",), [[(0, 0)], [(0, 1)], [(1, None)]]), ("store", ("core",), [[(0, 1)], [(1, 2)]]), ("shell", ("core",), [[(0, 1)], [(0, 2)], [(2, None)]])])
>>> k = Console(c)
>>> results = [k.execute("begin x")]
>>> k.run(["state x", "running core"])
>>> [results, k.log(), k.runtime().sessions()]
[['ok'], [('begin', 2), ('end', 2)], ['x']]
'''


def shown(error):
    attributes = ", ".join(f"{name}={worth!r}" for name, worth in vars(error).items())
    name = error.__class__.__name__
    return f"raises {name}({attributes})" if attributes else f"raises {name}"


def outcome(lines):
    *before, last = [line.removeprefix(">>> ") for line in lines]
    names = {}
    exec("\n".join(before), names)
    try:
        return repr(eval(last, names))
    except Exception as error:
        return shown(error)


class Examples(unittest.TestCase):
    def test_every_example(self):
        blocks = EXAMPLES.strip().split("\n\n")
        self.assertEqual(len(blocks), 74)
        for block in blocks:
            with self.subTest(block):
                *lines, expected = block.split("\n")
                self.assertEqual(outcome(lines), expected)


if __name__ == "__main__":
    unittest.main()
