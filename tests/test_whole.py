"""The whole program: every call with keywords, and the guarantees of [6] over small catalogs and histories."""

import inspect
import unittest
from itertools import islice

from groupsteps import (catalogs, changes, console, demands, errors, histories, least, names, plans, runtimes, states,
                        steps, systems, texts, windows)
from groupsteps.catalogs import Catalog, catalog_of
from groupsteps.console import Console
from groupsteps.runtimes import Runtime
from groupsteps.systems import System
from tests.brute import Brute, lower, rich_catalogs, upper
from tests.record import RUNTIME_CALLS, Arguments, Record, compare_call, seen
from tests.small import (Numbers, all_states, below, close_catalogs, consistent_states, doc_catalog, own_conflicts,
                         random_catalogs)
from tests.support import StrictCase
from tests.test_histories import told
from tests.test_runtimes import busy, random_runtime
from tests.test_systems import CORE, HIGH, LOW, SHELL, STORE, catalogs_with_states
from tests.test_texts import DOC_TEXT

GOALS = [("shell", 2)]
ROWS = [("core", ("store",), [[(0, 0)]]), ("store", (), [[]])]
# For each function a call: the arguments by their names, in the order of the interface.
FUNCTIONS = [
    (names.is_name, {"value": "core"}), (names.is_version, {"value": 1}), (windows.is_window, {"value": (0, 1)}),
    (windows.contains, {"window": (0, 1), "version": 2}), (windows.rises, {"first": (0, 1), "second": (1, 1)}),
    (windows.first_falling, {"windows": [(1, 1), (0, 1)]}),
    (windows.least_reaching, {"windows": [(0, 1), (0, 2)], "version": 2}), (windows.format_window, {"window": (0, 1)}),
    (windows.parse_window, {"text": "0..1"}), (catalogs.catalog_of, {"rows": ROWS}),
    (states.is_state, {"catalog": doc_catalog(), "value": LOW}),
    (states.conflicts, {"catalog": doc_catalog(), "state": {**LOW, "store": 1}}),
    (states.first_conflict, {"catalog": doc_catalog(), "state": {**LOW, "store": 1}}),
    *[(function, {"catalog": doc_catalog(), "one": LOW, "other": HIGH})
      for function in [states.is_below, states.lower_state, states.upper_state, plans.difference, plans.ways]],
    (demands.is_demand, {"catalog": doc_catalog(), "value": ("core", 1)}),
    *[(function, {"catalog": doc_catalog(), "demand": ("shell", 2)})
      for function in [demands.settled, demands.following, demands.failing_chain, demands.demanded]],
    (demands.is_chain, {"catalog": doc_catalog(), "value": [("core", 1)]}),
    *[(function, {"catalog": doc_catalog()}) for function in [least.least_state, least.greatest_state,
                                                             texts.format_catalog]],
    *[(function, {"catalog": doc_catalog(), "module": "store", "version": 1})
      for function in [least.least_with, least.greatest_with, steps.step_to]],
    (least.why, {"catalog": doc_catalog(), "module": "shell", "version": 2, "other": "store"}),
    (steps.is_step, {"catalog": doc_catalog(), "value": CORE}),
    *[(function, {"catalog": doc_catalog(), "step": STORE}) for function in [
        steps.start_of, steps.end_of, steps.needs, steps.direct_needs, steps.needed_by]],
    (steps.why_together, {"catalog": doc_catalog(), "step": CORE, "one": "core", "other": "core"}),
    *[(function, {"catalog": doc_catalog(), "state": LOW}) for function in [plans.done_steps, plans.available_steps]],
    (plans.state_with, {"catalog": doc_catalog(), "steps": [CORE]}),
    *[(function, {"catalog": doc_catalog(), "state": LOW, "goals": GOALS}) for function in [
        plans.target_state, plans.plan_for, plans.walk, plans.rounds, plans.longest_sequence]],
    (plans.is_plan, {"catalog": doc_catalog(), "state": LOW, "value": [CORE]}),
    (plans.state_after, {"catalog": doc_catalog(), "state": LOW, "steps": [CORE]}),
    (changes.compare, {"old": doc_catalog(), "new": doc_catalog()}),
    (texts.format_step, {"step": CORE}), (texts.parse_step, {"text": "core:0:1"}),
    (texts.parse_catalog, {"text": DOC_TEXT}), (histories.load, {"text": DOC_TEXT + "state 0 0 0\n"}),
    (Catalog, {"uses": {"core": ("store",), "store": ()}}), (System, {"catalog": doc_catalog(), "state": HIGH}),
    (Runtime, {"catalog": doc_catalog(), "state": HIGH}), (System.state_text, {"state": HIGH}),
]
# For each method a call on an object that is made for it.
CATALOG_CALLS = [
    ("uses", {"module": "core"}), ("users", {"module": "core"}), ("versions", {"module": "core"}),
    ("publish", {"module": "shell", "windows": [(2, None)]}), ("window", {"user": "core", "used": "store", "version": 1}),
    ("withdraw", {"module": "core", "version": 1}), ("is_available", {"module": "core", "version": 1}),
    ("available", {"module": "core"}),
]
SYSTEM_CALLS = [
    ("perform", {"step": STORE}), ("pin", {"module": "core", "version": 1}), ("unpin", {"module": "shell"}),
    ("add_goal", {"operator": "bob", "module": "core", "version": 2}), ("drop_goals", {"operator": "ann"}),
    ("goals", {"operator": "ann"}), ("blocked", {"operator": "ann"}), ("run", {"operator": "ann"}),
    ("retreat", {"module": "core", "version": 0}),
]
RUNTIME_METHODS = [
    ("begin", {"session": "z"}), ("finish", {"session": "x"}), ("session_state", {"session": "x"}),
    ("advance", {"session": "x"}), ("talk", {"one": "x", "other": "y"}), ("running", {"module": "shell"}),
    ("publish", {"module": "shell", "windows": [(2, None)]}), ("withdraw", {"module": "core", "version": 2}),
]
CONSOLE_CALLS = [("execute", {"command": "begin x"}), ("run", {"commands": ["begin x", "state x"]})]


def listed(result):
    return list(result) if inspect.isgenerator(result) else result


def parameters(function):
    return list(inspect.signature(function).parameters)


class Keywords(StrictCase):
    def test_functions_and_classes(self):
        for function, args in FUNCTIONS:
            with self.subTest(function.__name__):
                self.assertEqual(parameters(function), list(args))
                by_place, by_name = function(*args.values()), function(**args)
                turned = function(**dict(reversed(args.items())))
                for result in [by_name, turned]:
                    self.assertEqual(result.__class__, by_place.__class__)
                first, *others = [listed(result) for result in [by_place, by_name, turned]]
                self.assertEqual(others, [first, first])

    def test_methods(self):
        for make, calls in [(doc_catalog, CATALOG_CALLS), (busy, SYSTEM_CALLS + RUNTIME_METHODS)]:
            for method, args in calls:
                with self.subTest(method):
                    one, other, third = make(), make(), make()
                    self.assertEqual(parameters(getattr(one, method)), list(args))
                    result = getattr(one, method)(*args.values())
                    self.assertSame(getattr(other, method)(**args), result)
                    self.assertSame(getattr(third, method)(**dict(reversed(args.items()))), result)
                    self.assertTrue(one == other == third)

    def test_the_console(self):
        for method, args in CONSOLE_CALLS:
            one, other = Console(doc_catalog()), Console(catalog=doc_catalog(), state=None)
            self.assertEqual(parameters(getattr(one, method)), list(args))
            self.assertSame(getattr(one, method)(*args.values()), getattr(other, method)(**args))
            self.assertSame(seen(one.runtime()), seen(other.runtime()))
            self.assertSame(one.log(), other.log())
        self.assertEqual(parameters(Console), ["catalog", "state"])

    def test_parameters_that_must_be_named(self):
        self.assertSame(steps.all_steps(catalog=doc_catalog(), module="store"), [STORE])
        self.assertRaises(TypeError, steps.all_steps, doc_catalog(), "store")
        for make in [System, Runtime]:
            system = make(doc_catalog())
            system.perform(CORE)
            system.perform(SHELL)
            system.undo(count=2)
            self.assertSame(system.state(), LOW)
            self.assertRaises(TypeError, system.undo, 1)
            system.add_goal("ann", "core", 1)
            self.assertSame(system.plan(operator="ann"), [CORE])
            self.assertRaises(TypeError, system.plan, "ann")

    def test_parameters_with_stars(self):
        catalog = doc_catalog()
        self.assertSame(least.least_meeting(catalog=catalog, store=1, shell=1), {"core": 1, "store": 1, "shell": 1})
        self.assertSame(least.least_meeting(catalog=catalog), LOW)
        for make in [System, Runtime]:
            self.assertSame(make.meeting(catalog=catalog).state(), LOW)
            self.assertSame(make.meeting(catalog, ("core", 1)).state(), {"core": 1, "store": 0, "shell": 0})
        self.assertSame(histories.attempt(runtime=Runtime(catalog)), [])

    def test_save(self):
        self.assertSame(histories.save(runtime=busy()), histories.save(busy()))

    def test_errors(self):
        for value in vars(errors).values():
            if inspect.isclass(value) and "__init__" in vars(value):
                given = {name: name for name in parameters(value)}
                self.assertEqual(vars(value(**given)), given)
                self.assertEqual(vars(value(*given.values())), given)


class Results(StrictCase):
    """No result is shared with an object, and no call changes what it is given."""

    def test_arguments_stay_as_they_are(self):
        for function, args in FUNCTIONS:
            before = repr(args)
            listed(function(**args))
            self.assertEqual(repr(args), before)

    def test_repeated_queries(self):
        for function, args in FUNCTIONS:
            self.assertEqual(repr(listed(function(**args))), repr(listed(function(**args))))

    def test_results_are_new(self):
        for function, args in FUNCTIONS:
            before = repr(listed(function(**args)))
            result = listed(function(**args))
            for inner in result if isinstance(result, (list, tuple)) else []:
                if isinstance(inner, (list, dict)):
                    inner.clear()
            if isinstance(result, (list, dict)):
                result.clear()
            self.assertEqual(repr(listed(function(**args))), before)


class Guarantees(StrictCase):
    def setUp(self):
        found = random_catalogs(120, seed=121) + close_catalogs(160, seed=122)
        self.all = [(catalog, Brute(catalog)) for catalog in found] + rich_catalogs(40, 129)
        self.catalogs = [(catalog, brute) for catalog, brute in self.all if brute.states]

    def test_same_steps(self):
        numbers, ways = Numbers(123), 0
        for catalog, brute in self.catalogs:
            one = brute.states[numbers.below(len(brute.states))]
            above = [state for state in brute.states if below(one, state)]
            other = above[numbers.below(len(above))]
            expected = sorted(plans.difference(catalog, one, other))
            waiting, found = [(one, [])], 0
            while waiting and found < 30:
                state, done = waiting.pop()
                if state == other:
                    found += 1
                    self.assertEqual(sorted(done), expected)
                for after in [each for each in brute.covers(state) if below(each, other)]:
                    switch = tuple((name, state[name], after[name]) for name in state if state[name] != after[name])
                    waiting.append((after, [*done, switch]))
            ways += found > 1
        self.assertGreater(ways, 20)

    def test_closed(self):
        for catalog, brute in self.catalogs:
            for one in brute.states[::2]:
                for other in brute.states[::3]:
                    self.assertSame(states.lower_state(catalog, one, other), lower(one, other))
                    self.assertSame(states.upper_state(catalog, one, other), upper(one, other))
                    self.assertIn(lower(one, other), brute.states)
                    self.assertIn(upper(one, other), brute.states)

    def test_chain(self):
        met = unmet = 0
        for catalog, brute in self.all:
            for module in catalog.modules():
                for version in range(catalog.versions(module) + 2):
                    is_met = any(state[module] >= version for state in brute.states)
                    chain = demands.failing_chain(catalog, (module, version))
                    met, unmet = met + is_met, unmet + (not is_met)
                    self.assertEqual(is_met, bool(brute.states) and chain is None)
        self.assertTrue(met > 500 and unmet > 500)

    def test_states_are_those_without_conflicts(self):
        for catalog, brute in self.all[:100]:
            for state in all_states(catalog):
                self.assertEqual(states.first_conflict(catalog, state) is None, state in brute.states)

    def test_goals_in_any_sequence(self):
        numbers, performed = Numbers(124), 0
        for catalog, brute in self.catalogs:
            state = brute.states[numbers.below(len(brute.states))]
            goals = [(name, numbers.below(brute.greatest[name] + 1)) for name in brute.names]
            system, needed = System(catalog, state), plans.plan_for(catalog, state, goals)
            while needed:
                ready = [step for step in system.available() if step in needed]
                step = ready[numbers.below(len(ready))]
                system.perform(step)
                needed.remove(step)
                performed += 1
            self.assertSame(system.state(), brute.target(state, goals))
        self.assertGreater(performed, 200)

    def test_rounds(self):
        for catalog, brute in self.catalogs:
            goals = [(name, brute.greatest[name]) for name in brute.names]
            found = plans.rounds(catalog, brute.least, goals)
            for steps_of_round in found:
                switched = [name for step in steps_of_round for name, old, new in step]
                self.assertEqual(len(switched), len(set(switched)))
            # Steps of a sequence in which each needs the one before it are in rounds of their own.
            depth = {}
            for step in plans.plan_for(catalog, brute.least, goals):
                depth[step] = 1 + max([depth[other] for other in brute.needs(step)], default=0)
            self.assertEqual(len(found), max(depth.values(), default=0))

    def test_pinned(self):
        numbers, fewer = Numbers(125), 0
        for catalog, brute in self.catalogs:
            for state in brute.states[::5]:
                system = Runtime(catalog, state)
                before = system.available()
                for name in brute.names[::2]:
                    system.pin(name, numbers.below(4))
                pins = system.pins()
                allowed = [step for step in before if all(new <= pins.get(name, new) for name, old, new in step)]
                self.assertSame(system.available(), allowed)
                self.assertSame(system.progress, (len(brute.done(state)), len(brute.steps)))
                fewer += len(allowed) < len(before)
        self.assertGreater(fewer, 40)


class Histories(StrictCase):
    def test_all_guarantees_while_a_runtime_goes_on(self):
        """[2] and [6]: what holds for every history of a system."""
        retreats = published = withdrawn = 0
        for seed, (catalog, brute) in enumerate(catalogs_with_states(30, 126)):
            runtime, record = Runtime(catalog), Record(catalog, runtime=True)
            arguments = Arguments(Numbers(seed), record)
            for number in range(40):
                before, done = runtime.catalog(), runtime.progress[0]
                done_before = plans.done_steps(before, runtime.state())
                entry = arguments.entry(RUNTIME_CALLS)
                if not compare_call(self, runtime, record, entry):
                    continue
                for session in runtime.sessions():
                    self.assertEqual(own_conflicts(runtime.catalog(), runtime.session_state(session)), [])
                kept, glued, added, lost = changes.compare(before, runtime.catalog())
                if entry[0] == "publish":
                    published += 1
                    self.assertSame((kept, glued, lost), (steps.all_steps(before), [], []))
                elif entry[0] == "withdraw":
                    withdrawn += 1
                    parts = kept + [part for step, each in glued for part in each]
                    self.assertEqual(len(parts), len(set(parts)))
                    self.assertSame(added, [])
                elif entry[0] == "retreat":
                    retreats += self.undone(record.brute, done_before, entry, runtime) > 0
                elif entry[0] == "perform":
                    self.assertEqual(runtime.progress[0], done + 1)
            self.assertSame(told(histories.load(histories.save(runtime))), told(runtime))
        self.assertTrue(retreats > 10 and published > 20 and withdrawn > 20, (retreats, published, withdrawn))

    def undone(self, brute, done_before, entry, runtime):
        """A retreat undoes the step that raised the module above the version, and all that need it."""
        word, module, version = entry
        raising = [step for step in done_before for name, old, new in step if name == module and old <= version < new]
        expected = [step for step in done_before if step in raising or set(raising) & set(brute.needs(step))]
        now = plans.done_steps(runtime.catalog(), runtime.state())
        self.assertEqual([step for step in done_before if step not in now], expected)
        return len(expected)

    def test_histories_through_the_console(self):
        """The lines of the entries of one runtime are commands for another one."""
        for seed, (catalog, brute) in enumerate(catalogs_with_states(20, 127)):
            runtime, record = random_runtime(self, seed, catalog, 40)
            lines = histories.save(runtime).split("\n")
            place = next(place for place, line in enumerate(lines) if line.startswith("state"))
            other = Console(catalog)
            results = other.run(lines[place + 1:-1])
            self.assertEqual(len(results), len(runtime))
            self.assertSame(seen(other.runtime()), seen(runtime))
            third = Runtime(catalog)
            histories.attempt(third, *runtime.entries())
            self.assertSame(seen(third), seen(runtime))
            self.assertTrue(third == runtime == other.runtime())

    def test_the_same_text_for_equal_catalogs(self):
        for catalog in random_catalogs(60, seed=128):
            other = texts.parse_catalog(texts.format_catalog(catalog))
            self.assertTrue(other == catalog)
            if not consistent_states(catalog):
                continue
            self.assertSame(steps.all_steps(other), steps.all_steps(catalog))
            # Which chain is shown depends on the contents of the catalog alone.
            for module in catalog.modules():
                high = least.greatest_state(catalog)[module]
                for name in catalog.modules():
                    self.assertSame(least.why(other, module, high, name), least.why(catalog, module, high, name))

    def test_ways_can_be_left_at_any_time(self):
        catalog = catalog_of([("m" + letter, (), [[] for version in range(16)]) for letter in "abcdefghijkl"])
        low, high = least.least_state(catalog), least.greatest_state(catalog)
        found = list(islice(plans.ways(catalog, low, high), 4))
        self.assertEqual(len({repr(way) for way in found}), 4)
        self.assertTrue(all(len(way) == 180 for way in found))
        self.assertEqual(found, sorted(found, key=lambda way: [steps.all_steps(catalog).index(step) for step in way]))


class Interface(StrictCase):
    def test_no_module_is_missing(self):
        for module in [catalogs, changes, console, demands, errors, histories, least, names, plans, runtimes, states,
                       steps, systems, texts, windows]:
            self.assertTrue(module.__doc__)

    def test_numbers(self):
        self.assertEqual((catalogs.MOST_MODULES, catalogs.MOST_VERSIONS, catalogs.MOST_USES), (12, 16, 40))
        self.assertEqual((System.MOST_OPERATORS, System.MOST_GOALS, Runtime.MOST_SESSIONS), (8, 12, 8))


if __name__ == "__main__":
    unittest.main()
