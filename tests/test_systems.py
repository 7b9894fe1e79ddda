import unittest
from collections import Counter

from groupsteps.catalogs import Catalog, catalog_of
from groupsteps.errors import (InvalidCount, InvalidGoals, InvalidName, InvalidState, InvalidStep, InvalidVersion,
                               NotAvailable, NotConsistent, NothingToUndo, Pinned, TooMany, UnknownModule,
                               UnknownOperator)
from groupsteps.least import greatest_state
from groupsteps.runtimes import Runtime
from groupsteps.steps import all_steps
from groupsteps.systems import System
from tests.brute import Brute, rich_catalogs
from tests.record import CALLS, Arguments, Record, call, compare_call, drive, seen
from tests.small import Numbers, below, close_catalogs, doc_catalog, random_catalogs
from tests.support import Touchy, wrong_kinds
from tests.test_steps import StepCase, large_catalog, no_steps, stuck_catalog

LOW = {"core": 0, "store": 0, "shell": 0}
HIGH = {"core": 2, "store": 1, "shell": 2}
WRONG = {"core": 0, "store": 1, "shell": 0}
CORE, STORE, SHELL = (("core", 0, 1),), (("store", 0, 1),), (("shell", 0, 1),)


def catalogs_with_states(count, seed):
    found = [(catalog, Brute(catalog)) for catalog in close_catalogs(count // 4, seed) + random_catalogs(count // 4, seed)]
    return rich_catalogs(count // 2, seed) + [(catalog, brute) for catalog, brute in found if brute.states]


def busy():
    """A system in which everything is set."""
    system = System(doc_catalog())
    system.perform(SHELL)
    system.perform(CORE)
    system.add_goal("bob", "shell", 2)
    system.add_goal("ann", "store", 1)
    system.add_goal("ann", "core", 1)
    system.pin("shell", 1)
    system.pin("core", 2)
    return system


class AtRandom(StepCase):
    def test_sequences_of_calls(self):
        done, refused = Counter(), Counter()
        for seed, (catalog, brute) in enumerate(catalogs_with_states(80, 51)):
            numbers = Numbers(seed)
            state = brute.states[numbers.below(len(brute.states))] if numbers.below(2) else None
            made = drive(self, System(catalog, state), Record(catalog, state), numbers, CALLS, 50)
            done.update(entry[0] for entry, was_done in made if was_done)
            refused.update(entry[0] for entry, was_done in made if not was_done)
        self.assertTrue(all(done[word] > 50 and refused[word] > 5 for word in CALLS), (done, refused))

    def test_pins_take_away_steps_and_change_none(self):
        numbers = Numbers(52)
        for catalog, brute in catalogs_with_states(60, 52):
            system = System(catalog)
            steps, before = all_steps(catalog), system.available()
            for module in catalog.modules():
                system.pin(module, numbers.below(3))
            self.assertTrue(all(step in before for step in system.available()))
            self.assertEqual(all_steps(system.catalog()), steps)

    def test_operators_may_run_in_any_sequence(self):
        numbers, moved = Numbers(53), 0
        for catalog, brute in catalogs_with_states(60, 53):
            ends = []
            goals = [(name, numbers.below(brute.greatest[name] + 1)) for name in catalog.modules()]
            for turned in [goals, goals[::-1]]:
                system = System(catalog)
                for place, (module, version) in enumerate(turned):
                    system.add_goal("abcd"[place], module, version)
                planned = system.plan()
                performed = [step for operator in system.operators() for step in system.run(operator)]
                self.assertEqual(sorted(performed), sorted(planned))
                ends.append(system.state())
            self.assertEqual(ends, [brute.least_with(goals)] * 2)
            moved += ends[0] != brute.least
        self.assertGreater(moved, 20)

    def test_a_retreat_undoes_the_step_and_what_needs_it(self):
        undone = 0
        for catalog, brute in catalogs_with_states(60, 54):
            for state in brute.states[::3]:
                for module in catalog.modules():
                    for version in range(brute.least[module], 4):
                        system = System(catalog, state)
                        result = system.retreat(module, version)
                        raising = [step for step in brute.done(state) for name, old, new in step
                                   if name == module and old <= version < new]
                        expected = [step for step in brute.done(state) if any(
                            step == first or first in brute.needs(step) for first in raising)]
                        self.assertSame(result, expected)
                        self.assertEqual(brute.done(system.state()),
                                         [step for step in brute.done(state) if step not in expected])
                        undone += len(expected) > 1
        self.assertGreater(undone, 50)


class Making(StepCase):
    def test_the_state_that_runs(self):
        self.assertSame(System(doc_catalog()).state(), LOW)
        self.assertSame(System(doc_catalog(), None).state(), LOW)
        turned = dict(reversed(HIGH.items()))
        system = System(doc_catalog(), turned)
        self.assertSame(system.state(), HIGH)
        self.assertSame(system.start()[1], HIGH)
        self.assertSame(System(catalog=doc_catalog(), state=HIGH).state(), HIGH)

    def test_wrong_states(self):
        for made in [System, Runtime]:
            for value in [value for value in wrong_kinds() if not isinstance(value, dict) and value is not None]:
                self.assertFails(InvalidState, {"module": None}, made, doc_catalog(), value)
            for value, module in [({}, "core"), ({**LOW, "shell": 3}, "shell"), ({**LOW, "core": False}, "core"),
                                  ({**LOW, "log": 0}, None), ({**LOW, "store": Touchy()}, "store")]:
                self.assertFails(InvalidState, {"module": module}, made, doc_catalog(), value)
            self.assertFails(NotConsistent, {"user": "core", "used": "store"}, made, doc_catalog(), WRONG)

    def test_no_consistent_state(self):
        for made in [System, Runtime]:
            self.assertNoState(stuck_catalog(), made, stuck_catalog())
            self.assertNoState(stuck_catalog(), made.meeting, stuck_catalog())
            self.assertNoState(stuck_catalog(), made.meeting, stuck_catalog(), ("core", 99))
            self.assertFails(InvalidState, {"module": "store"}, made, stuck_catalog(), {"core": 0, "store": 5})
            self.assertFails(NotConsistent, {"user": "core", "used": "store"}, made, stuck_catalog(),
                             {"core": 0, "store": 0})
            self.assertFails(InvalidGoals, {"position": 0}, made.meeting, stuck_catalog(), None)

    def test_meeting(self):
        for catalog, brute in catalogs_with_states(40, 55):
            demands = [(name, brute.greatest[name] // 2) for name in catalog.modules()]
            for made in [System, Runtime]:
                system = made.meeting(catalog, *demands)
                self.assertIs(system.__class__, made)
                self.assertSame(system.state(), brute.least_with(demands))
                self.assertSame(system.start(), (catalog, brute.least_with(demands)))
                self.assertSame(system.entries(), [])
                self.assertSame(made.meeting(catalog).state(), brute.least)
                wrong = (catalog.modules()[0], brute.greatest[catalog.modules()[0]] + 1)
                self.assertUnreachable(catalog, wrong, made.meeting, catalog, *demands, wrong, (wrong[0], 99))

    def test_meeting_takes_demands_only(self):
        for value in [*wrong_kinds(), "core", ["core", 1], ("core", True), ("log", 1), ("core", -1)]:
            for made in [System, Runtime]:
                self.assertFails(InvalidGoals, {"position": 0}, made.meeting, doc_catalog(), value)
                self.assertFails(InvalidGoals, {"position": 1}, made.meeting, doc_catalog(), ("core", 99), value, None)

    def test_what_is_given_is_copied(self):
        catalog, state = doc_catalog(), dict(HIGH)
        system = System(catalog, state)
        state.clear()
        catalog.withdraw("core", 0)
        catalog.publish("shell", [(2, None)])
        self.assertSame(seen(system), Record(doc_catalog(), HIGH).seen())

    def test_numbers(self):
        self.assertEqual((System.MOST_OPERATORS, System.MOST_GOALS), (8, 12))


class Texts(StepCase):
    def test_state_text(self):
        self.assertSame(System.state_text({}), "")
        self.assertSame(System.state_text({"b": 2, "a": 0}), "b=2 a=0")
        self.assertSame(System.state_text(state={"core": 10 ** 59}), "core=1" + "0" * 59)
        self.assertSame(Runtime.state_text({"a": 1}), "a=1")
        self.assertSame(System(doc_catalog()).state_text({"a": 1}), "a=1")

    def test_wrong_states(self):
        for value in [value for value in wrong_kinds() if not isinstance(value, dict)] + ["core=0", [("core", 0)]]:
            self.assertFails(InvalidState, {"module": None}, System.state_text, value)
        for value in wrong_kinds():
            self.assertFails(InvalidState, {"module": "b"}, System.state_text, {"a": 1, "b": value, "C": 0})
        for key in ["", "A", "abcdefghi", "a b", b"a", 1, None, True, ("a",)]:
            self.assertFails(InvalidState, {"module": key}, System.state_text, {"a": 1, key: 1, "b": None})

    def test_str_and_repr(self):
        system = System(doc_catalog(), HIGH)
        self.assertSame(str(system), "core=2 store=1 shell=2")
        self.assertSame(repr(system), "System(core=2 store=1 shell=2)")
        self.assertSame(len(system), 0)
        self.assertSame(len(busy()), 7)


class Performing(StepCase):
    def test_values_that_are_no_steps(self):
        system = System(doc_catalog())
        for value in no_steps():
            self.assertFails(InvalidStep, {"value": value}, system.perform, value)
        self.assertSame(seen(system), seen(System(doc_catalog())))

    def test_which_error_comes_first(self):
        system = System(doc_catalog())
        system.pin("store", 0)
        system.pin("core", 0)
        self.assertFails(NotAvailable, {"step": STORE}, system.perform, STORE)
        self.assertFails(Pinned, {"module": "core", "version": 0}, system.perform, CORE)
        self.assertFails(InvalidStep, {"value": None}, system.perform, step=None)

    def test_the_first_forbidden_module(self):
        catalog = catalog_of([("core", ("store",), [[(0, 0)], [(1, 2)]]), ("store", ("core",), [[(0, 0)], [(1, None)]])])
        step = (("core", 0, 1), ("store", 0, 1))
        system = System(catalog)
        system.pin("store", 0)
        self.assertFails(Pinned, {"module": "store", "version": 0}, system.perform, step)
        system.pin("core", 0)
        self.assertFails(Pinned, {"module": "core", "version": 0}, system.perform, step)
        system.pin("core", 1)
        system.pin("store", 1)
        self.assertIs(system.perform(step), None)
        self.assertSame(system.progress, (1, 1))

    def test_done_steps_are_not_available(self):
        system = System(doc_catalog(), HIGH)
        self.assertSame(system.available(), [])
        self.assertFails(NotAvailable, {"step": CORE}, system.perform, CORE)

    def test_a_pin_below_the_running_version(self):
        system = System(doc_catalog(), HIGH)
        system.pin("core", 0)
        self.assertSame(system.state(), HIGH)
        system.retreat("shell", 1)
        self.assertSame(system.available(), [(("shell", 1, 2),)])


class Pins(StepCase):
    def test_pins_are_in_the_order_of_the_catalog(self):
        system = System(doc_catalog())
        for module, version in [("shell", 3), ("core", 10 ** 59), ("shell", 0)]:
            self.assertIs(system.pin(module, version), None)
        self.assertSame(system.pins(), {"core": 10 ** 59, "shell": 0})
        self.assertIs(system.unpin("core"), None)
        self.assertIs(system.unpin("core"), None)
        self.assertSame(system.pins(), {"shell": 0})
        self.assertSame(system.entries()[2:], [("pin", "shell", 0), ("unpin", "core"), ("unpin", "core")])

    def test_wrong_arguments(self):
        system = busy()
        for value in [*wrong_kinds(), "log", ""]:
            self.assertFails(UnknownModule, {"value": value}, system.pin, value, -1)
            self.assertFails(UnknownModule, {"value": value}, system.unpin, value)
        for value in [*wrong_kinds(), "1"]:
            self.assertFails(InvalidVersion, {"value": value}, system.pin, "core", value)
        self.assertSame(seen(system), seen(busy()))


class Goals(StepCase):
    def test_most_operators_and_goals(self):
        system = System(doc_catalog())
        for operator in "abcdefgh":
            for number in range(12):
                self.assertIs(system.add_goal(operator, "core", number % 3), None)
        self.assertFails(TooMany, {"kind": "operators", "limit": System.MOST_OPERATORS}, system.add_goal, "i", "core", 0)
        self.assertFails(TooMany, {"kind": "goals", "limit": System.MOST_GOALS}, system.add_goal, "a", "core", 0)
        self.assertUnreachable(system.catalog(), ("core", 3), system.add_goal, "i", "core", 3)
        self.assertUnreachable(system.catalog(), ("core", 3), system.add_goal, "a", "core", 3)
        self.assertEqual(len(system), 96)
        self.assertSame(system.operators(), list("abcdefgh"))
        system.drop_goals("c")
        system.add_goal("i", "core", 0)
        self.assertSame(system.operators(), list("abdefghi"))
        self.assertSame(system.goals("i"), [("core", 0)])

    def test_wrong_arguments(self):
        system = busy()
        for value in [*wrong_kinds(), "", "Ann", "abcdefghi", "a b"]:
            self.assertFails(InvalidName, {"value": value}, system.add_goal, value, None, -1)
        for value in [*wrong_kinds(), "log", ""]:
            self.assertFails(UnknownModule, {"value": value}, system.add_goal, "ann", value, -1)
        for value in [*wrong_kinds(), "1"]:
            self.assertFails(InvalidVersion, {"value": value}, system.add_goal, "ann", "core", value)
        self.assertSame(seen(system), seen(busy()))

    def test_no_operator(self):
        system = busy()
        for value in [*wrong_kinds(), "", "cat", "Ann", b"ann"]:
            for method in [system.drop_goals, system.goals, system.blocked, system.run]:
                self.assertFails(UnknownOperator, {"value": value}, method, value)
            if value is not None:
                self.assertFails(UnknownOperator, {"value": value}, system.plan, operator=value)
        self.assertSame(seen(system), seen(busy()))

    def test_a_goal_may_occur_twice(self):
        system = System(doc_catalog())
        for version in [1, 0, 1]:
            system.add_goal("ann", "core", version)
        self.assertSame(system.goals("ann"), [("core", 1), ("core", 0), ("core", 1)])
        system.pin("core", 0)
        self.assertSame(system.blocked("ann"), [("core", 1), ("core", 1)])

    def test_a_met_goal_is_not_blocked(self):
        system = System(doc_catalog(), HIGH)
        system.pin("core", 0)
        system.add_goal("ann", "shell", 2)
        self.assertSame(system.blocked("ann"), [])
        self.assertSame(system.run("ann"), [])
        self.assertSame(system.entries()[-1], ("run", "ann"))

    def test_run_leaves_out_blocked_goals(self):
        system = System(doc_catalog())
        system.add_goal("ann", "shell", 2)
        system.add_goal("ann", "store", 1)
        system.pin("core", 1)
        self.assertSame(system.blocked("ann"), [("shell", 2)])
        self.assertEqual(len(system.plan(operator="ann")), 5)
        self.assertSame(system.run("ann"), [CORE, STORE])
        self.assertSame(str(system), "core=1 store=1 shell=0")
        self.assertSame(system.plan(), system.plan(operator=None))

    def test_operators_are_sorted(self):
        system = System(doc_catalog())
        for operator in ["bob", "al", "a", "b", "zed", "ann"]:
            system.add_goal(operator, "core", 0)
        self.assertSame(system.operators(), ["a", "al", "ann", "b", "bob", "zed"])


class Retreats(StepCase):
    def test_wrong_arguments(self):
        system = busy()
        for value in [*wrong_kinds(), "log", ""]:
            self.assertFails(UnknownModule, {"value": value}, system.retreat, value, -1)
        for value in [*wrong_kinds(), "1"]:
            self.assertFails(InvalidVersion, {"value": value}, system.retreat, "core", value)
        self.assertSame(seen(system), seen(busy()))

    def test_no_state_has_so_early_a_version(self):
        catalog = catalog_of([("core", ("store",), [[(1, 1)], [(1, None)]]), ("store", (), [[], [], []])])
        system = System(catalog)
        self.assertSame(system.state(), {"core": 0, "store": 1})
        error = self.caught(system.retreat, "store", 0)
        self.assertSame(vars(error), {"chain": [("core", 0), ("store", 1)]})
        self.assertSame(system.retreat("store", 1), [])
        self.assertSame(system.entries(), [("retreat", "store", 1)])

    def test_a_far_version(self):
        system = System(doc_catalog(), HIGH)
        self.assertSame(system.retreat("core", 10 ** 59), [])
        self.assertSame(system.state(), HIGH)
        system.undo()
        self.assertFails(NothingToUndo, {}, system.undo)

    def test_withdrawn_versions_are_passed_over(self):
        catalog = catalog_of([("core", (), [[], [], [], []])])
        catalog.withdraw("core", 1)
        system = System(catalog, {"core": 3})
        self.assertSame(system.retreat("core", 1), [(("core", 0, 2),), (("core", 2, 3),)])
        self.assertSame(system.state(), {"core": 0})


class Undoing(StepCase):
    def test_wrong_counts(self):
        system = busy()
        for value in [*wrong_kinds(), 0, -5, "1"]:
            self.assertFails(InvalidCount, {"value": value}, system.undo, count=value)
        for count in [3, 10 ** 59]:
            self.assertFails(NothingToUndo, {}, system.undo, count=count)
        self.assertRaises(TypeError, system.undo, 1)
        self.assertSame(seen(system), seen(busy()))

    def test_one_after_another_and_at_once(self):
        system = System(doc_catalog())
        system.perform(CORE)
        system.add_goal("ann", "shell", 2)
        system.run("ann")
        system.run("ann")
        system.retreat("core", 0)
        other = system.clone()
        states = []
        for number in range(4):
            self.assertIs(system.undo(), None)
            states.append(str(system))
        self.assertEqual(states, ["core=2 store=1 shell=2"] * 2 + ["core=1 store=0 shell=0", "core=0 store=0 shell=0"])
        self.assertFails(NothingToUndo, {}, system.undo)
        other.undo(count=4)
        self.assertEqual(system, other)
        self.assertSame(other.entries()[-1], ("undo", 4))
        self.assertSame(system.goals("ann"), [("shell", 2)])

    def test_there_is_no_redo(self):
        system = System(doc_catalog())
        system.perform(CORE)
        system.perform(STORE)
        system.undo()
        system.perform(SHELL)
        self.assertSame(str(system), "core=1 store=0 shell=1")
        system.undo(count=2)
        self.assertSame(str(system), "core=0 store=0 shell=0")
        self.assertSame([entry[0] for entry in system.entries()], ["perform", "perform", "undo", "perform", "undo"])


class Copies(StepCase):
    def test_results_are_new(self):
        system = busy()
        for result in [system.state(), system.entries(), system.available(), system.pins(), system.operators(),
                       system.goals("ann"), system.blocked("bob"), system.plan(), system.start()[1]]:
            self.assertTrue(result)
            result.clear()
        system.catalog().withdraw("core", 0)
        system.start()[0].withdraw("core", 0)
        self.assertSame(seen(system), seen(busy()))
        system.run("ann").clear()
        self.assertSame(system.state(), {"core": 1, "store": 1, "shell": 1})

    def test_clones(self):
        for seed, (catalog, brute) in enumerate(catalogs_with_states(30, 56)):
            numbers = Numbers(seed)
            system, record = System(catalog), Record(catalog)
            drive(self, system, record, numbers, CALLS, 15)
            other = system.clone()
            self.assertIs(other.__class__, System)
            self.assertTrue(system == other and not system != other)
            self.assertSame(seen(other), record.seen())
            before = seen(system)
            for number in range(15):
                entry = Arguments(numbers, record).entry(CALLS)
                compare_call(self, other, record, entry)
            self.assertSame(seen(system), before)

    def test_a_clone_of_a_clone_begins_as_the_first(self):
        system = busy()
        other = system.clone().clone()
        self.assertSame(other.start(), (doc_catalog(), LOW))
        system.undo()
        self.assertSame(seen(other), seen(busy()))

    def test_equality(self):
        system = busy()
        self.assertTrue(system == busy())
        for entry in [("perform", STORE), ("pin", "core", 1), ("pin", "store", 0), ("unpin", "core"), ("undo", 1),
                      ("goal", "ann", "core", 1), ("goal", "cat", "core", 1), ("drop", "bob"), ("retreat", "core", 0)]:
            other = busy()
            call(other, entry)
            self.assertFalse(system == other)
            self.assertTrue(system != other)
        # Neither entries nor the start nor what can be undone are compared.
        other = System(doc_catalog(), {"core": 1, "store": 0, "shell": 1})
        for entry in [("pin", "core", 2), ("pin", "shell", 1), ("goal", "ann", "store", 1), ("goal", "ann", "core", 1),
                      ("goal", "bob", "shell", 2), ("unpin", "store")]:
            call(other, entry)
        self.assertTrue(system == other)

    def test_goals_in_another_sequence_are_not_equal(self):
        systems = []
        for versions in [(0, 1), (1, 0)]:
            system = System(doc_catalog())
            for version in versions:
                system.add_goal("ann", "core", version)
            systems.append(system)
        self.assertFalse(systems[0] == systems[1])

    def test_other_catalogs_and_other_values(self):
        other = doc_catalog()
        other.publish("shell", [(2, None)])
        self.assertFalse(System(doc_catalog()) == System(other))
        for value in [None, 0, "core=0 store=0 shell=0", LOW, doc_catalog(), Runtime(doc_catalog()), System, []]:
            self.assertFalse(System(doc_catalog()) == value)
            self.assertFalse(value == System(doc_catalog()))
            self.assertTrue(System(doc_catalog()) != value)

    def test_systems_are_independent(self):
        catalog = doc_catalog()
        one, other = System(catalog), System(catalog)
        one.perform(CORE)
        one.pin("core", 1)
        one.add_goal("ann", "core", 1)
        self.assertSame(seen(other), seen(System(doc_catalog())))

    def test_repeated_queries(self):
        system = busy()
        self.assertSame(seen(system), seen(system))


class Large(StepCase):
    def test_a_large_system(self):
        catalog = large_catalog(2, 1)
        system = System(catalog)
        high = greatest_state(catalog)
        for module in catalog.modules():
            system.add_goal("ann", module, high[module])
        steps = system.run("ann")
        self.assertEqual(sorted(steps), sorted(all_steps(catalog)))
        self.assertSame(system.state(), high)
        undone = system.retreat("mf", 3)
        self.assertEqual(system.state()["mf"], 3)
        self.assertTrue(below(system.state(), high))
        self.assertSame(system.progress, (len(steps) - len(undone), len(steps)))
        system.undo(count=2)
        self.assertSame(system.progress, (0, len(steps)))

    def test_a_catalog_of_one_module(self):
        catalog = Catalog({"core": ()})
        self.assertNoState(catalog, System, catalog)
        catalog.publish("core", [])
        system = System(catalog)
        self.assertSame((system.progress, system.available(), system.plan()), ((0, 0), [], []))


if __name__ == "__main__":
    unittest.main()
