import unittest
from itertools import combinations, islice, permutations

from groupsteps.catalogs import catalog_of
from groupsteps.errors import (InvalidGoals, InvalidState, InvalidSteps, MissingNeed, NotAvailable, NotBelow,
                               NotConsistent)
from groupsteps.least import greatest_state, least_state
from groupsteps.plans import (available_steps, difference, done_steps, is_plan, longest_sequence, plan_for, rounds,
                              state_after, state_with, target_state, walk, ways)
from groupsteps.steps import all_steps, needs
from tests.brute import Brute
from tests.small import Numbers, below, close_catalogs, doc_catalog, line_catalog, random_catalogs
from tests.support import Touchy, wrong_kinds
from tests.test_steps import StepCase, large_catalog, no_steps, stuck_catalog

LOW = {"core": 0, "store": 0, "shell": 0}
HIGH = {"core": 2, "store": 1, "shell": 2}
WRONG = {"core": 0, "store": 1, "shell": 0}
CORE, STORE, SHELL = (("core", 0, 1),), (("store", 0, 1),), (("shell", 0, 1),)
GOAL_FUNCTIONS = [target_state, plan_for, rounds, longest_sequence]


def listed(function):
    """A function that makes a list of what a generator yields."""
    return lambda *args, **named: list(function(*args, **named))


def catalogs_with_states(count, seed):
    found = [(catalog, Brute(catalog)) for catalog in random_catalogs(count, seed) + close_catalogs(count, seed)]
    return [(catalog, brute) for catalog, brute in found if brute.states]


def random_goals(numbers, catalog, brute):
    """Up to three demands; most of them are met by some consistent state."""
    goals = []
    for number in range(numbers.below(4)):
        module = catalog.modules()[numbers.below(len(catalog))]
        goals.append((module, numbers.below(brute.greatest[module] + 1 + (numbers.below(12) == 0))))
    return goals


class AgainstLists(StepCase):
    def setUp(self):
        self.catalogs = catalogs_with_states(130, 41)

    def situations(self, seed):
        """Each catalog with some of its states and with goals."""
        numbers = Numbers(seed)
        for catalog, brute in self.catalogs:
            for number in range(4):
                state = brute.states[numbers.below(len(brute.states))] if number else brute.least
                yield catalog, brute, state, random_goals(numbers, catalog, brute)

    def test_done_and_available(self):
        for catalog, brute in self.catalogs:
            for state in brute.states:
                turned = dict(reversed(state.items()))
                for given in [state, turned]:
                    self.assertSame(done_steps(catalog, given), brute.done(state))
                    self.assertSame(available_steps(catalog, given), brute.available(state))
                self.assertEqual(list(turned), list(state)[::-1])

    def test_available_steps_lead_to_the_states_above(self):
        for catalog, brute in self.catalogs:
            for state in brute.states:
                steps = available_steps(catalog, state)
                self.assertTrue(all(state[name] == old for step in steps for name, old, new in step))
                reached = [brute.after(state, step) for step in steps]
                self.assertEqual(sorted(map(repr, reached)), sorted(map(repr, brute.covers(state))))
                for step, after in zip(steps, reached):
                    self.assertSame(state_after(catalog, state, [step]), after)
                    self.assertEqual(set(brute.done(after)), {*brute.done(state), step})
                # Steps that are available at once have no module in common.
                names = [name for step in steps for name, old, new in step]
                self.assertEqual(len(names), len(set(names)))

    def test_difference(self):
        refused = 0
        for catalog, brute in self.catalogs:
            for one in brute.states[:8]:
                for other in brute.states[-8:]:
                    if below(one, other):
                        self.assertSame(difference(catalog, one, other), brute.between(one, other))
                    else:
                        refused += 1
                        module = next(name for name in catalog.modules() if one[name] > other[name])
                        self.assertFails(NotBelow, {"module": module}, difference, catalog, one, other)
        self.assertGreater(refused, 100)

    def test_one_state_for_each_closed_set_of_steps(self):
        missing = 0
        for catalog, brute in self.catalogs:
            if len(brute.steps) > 7:
                continue
            found = []
            for size in range(len(brute.steps) + 1):
                for chosen in combinations(brute.steps[::-1], size):
                    wanting = [step for step in chosen if not set(brute.needs(step)) <= set(chosen)]
                    if wanting:
                        missing += 1
                        self.assertFails(MissingNeed, {"step": wanting[0]}, state_with, catalog, list(chosen))
                    else:
                        found.append(state_with(catalog, list(chosen)))
                        self.assertEqual(list(found[-1]), catalog.modules())
                        self.assertEqual(set(brute.done(found[-1])), set(chosen))
            self.assertEqual(sorted(map(repr, found)), sorted(map(repr, brute.states)))
        self.assertGreater(missing, 500)

    def test_targets_and_plans(self):
        planned = 0
        for catalog, brute, state, goals in self.situations(1):
            if brute.least_with(goals) is None:
                continue
            target = brute.target(state, goals)
            self.assertSame(target_state(catalog, dict(reversed(state.items())), goals), target)
            plan = brute.plan(state, goals)
            planned += len(plan) > 1
            self.assertSame(plan_for(catalog, state, goals), plan)
            self.assertIs(is_plan(catalog, state, plan), True)
            self.assertSame(state_after(catalog, state, plan), target)
            walked = list(walk(catalog, dict(reversed(state.items())), goals))
            self.assertSame([step for step, after in walked], plan)
            for place, (step, after) in enumerate(walked):
                self.assertSame(after, state_after(catalog, state, plan[:place + 1]))
        self.assertGreater(planned, 60)

    def test_unreachable_goals(self):
        found = 0
        for catalog, brute, state, goals in self.situations(2):
            module = catalog.modules()[-1]
            goals = [*goals, (module, brute.greatest[module] + 1), (module, 99)]
            wrong = next(goal for goal in goals if brute.least_with([goal]) is None)
            found += 1
            for function in [*GOAL_FUNCTIONS, listed(walk)]:
                self.assertUnreachable(catalog, wrong, function, catalog, state, goals)
        self.assertGreater(found, 300)

    def test_rounds_and_longest_sequences(self):
        several = 0
        for catalog, brute, state, goals in self.situations(3):
            if brute.least_with(goals) is None:
                continue
            waiting, present, expected = brute.plan(state, goals), state, []
            while waiting:
                ready = [step for step in brute.available(present) if step in waiting]
                expected.append(ready)
                for step in ready:
                    present = brute.after(present, step)
                waiting = [step for step in waiting if step not in ready]
            self.assertSame(rounds(catalog, state, goals), expected)
            several += len(expected) > 1
            sequence = longest_sequence(catalog, state, goals)
            self.assertEqual(len(sequence), len(expected))
            self.assertTrue(all(step in brute.plan(state, goals) for step in sequence))
            for first, second in zip(sequence, sequence[1:]):
                self.assertIn(first, brute.needs(second))
        self.assertGreater(several, 60)

    def test_ways(self):
        many = 0
        for catalog, brute in self.catalogs:
            for one, other in [(brute.least, brute.greatest), (brute.states[0], brute.states[-1])]:
                if not below(one, other) or len(brute.between(one, other)) > 6:
                    continue
                steps = brute.between(one, other)
                expected = [list(way) for way in permutations(steps)
                            if all(set(brute.needs(step)) & set(steps) <= set(way[:place])
                                   for place, step in enumerate(way))]
                found = list(ways(catalog, dict(reversed(one.items())), other))
                self.assertSame(found, expected)
                many += len(found) > 1
                for way in found[:20]:
                    self.assertIs(is_plan(catalog, one, way), True)
                    self.assertSame(state_after(catalog, one, way), other)
        self.assertGreater(many, 40)

    def test_all_sequences_of_needed_steps_end_in_the_target(self):
        for catalog, brute, state, goals in self.situations(4):
            if brute.least_with(goals) is None:
                continue
            target = target_state(catalog, state, goals)
            for way in islice(ways(catalog, state, target), 10):
                self.assertEqual(sorted(way), sorted(plan_for(catalog, state, goals)))
                self.assertSame(state_after(catalog, state, way), target)

    def test_plans_in_a_wrong_sequence(self):
        refused = 0
        numbers = Numbers(5)
        for catalog, brute, state, goals in self.situations(5):
            steps = [brute.steps[numbers.below(len(brute.steps))] for number in range(3) if brute.steps]
            present, wrong = state, None
            for step in steps:
                if step not in brute.available(present):
                    wrong = step
                    break
                present = brute.after(present, step)
            self.assertIs(is_plan(catalog, state, steps), wrong is None)
            if wrong is None:
                self.assertSame(state_after(catalog, state, steps), present)
            else:
                refused += 1
                self.assertFails(NotAvailable, {"step": wrong}, state_after, catalog, state, steps)
        self.assertGreater(refused, 200)


class StateErrors(StepCase):
    def of_state(self):
        """Every function with a state, with its other arguments right."""
        return [
            done_steps, available_steps, lambda c, s: is_plan(c, s, []), lambda c, s: state_after(c, s, []),
            lambda c, s: difference(c, s, HIGH), lambda c, s: difference(c, LOW, s),
            lambda c, s: list(ways(c, s, HIGH)), lambda c, s: list(ways(c, LOW, s)),
            lambda c, s: list(walk(c, s, [])), *[lambda c, s, f=f: f(c, s, []) for f in GOAL_FUNCTIONS],
        ]

    def test_no_state(self):
        catalog = doc_catalog()
        wrong = [(value, None) for value in wrong_kinds() if not isinstance(value, dict)]
        wrong += [({}, "core"), ({"core": 0}, "store"), ({**LOW, "shell": 3}, "shell"), ({**LOW, "core": True}, "core"),
                  ({**LOW, "log": 0}, None), ({**LOW, "core": Touchy()}, "core"), ({**LOW, "store": None}, "store")]
        for value, module in wrong:
            for function in self.of_state():
                self.assertFails(InvalidState, {"module": module}, function, catalog, value)

    def test_withdrawn_version(self):
        catalog = doc_catalog()
        catalog.withdraw("core", 1)
        for function in self.of_state():
            self.assertFails(InvalidState, {"module": "core"}, function, catalog, {**LOW, "core": 1})

    def test_not_consistent(self):
        catalog = doc_catalog()
        for function in self.of_state():
            self.assertFails(NotConsistent, {"user": "core", "used": "store"}, function, catalog, WRONG)

    def test_two_states(self):
        catalog, late = doc_catalog(), {"core": 1, "store": 0, "shell": 2}
        for function in [difference, listed(ways)]:
            self.assertFails(InvalidState, {"module": "core"}, function, catalog, {}, None)
            self.assertFails(InvalidState, {"module": None}, function, catalog, None, {})
            # Both must be states before a conflict counts.
            self.assertFails(InvalidState, {"module": "store"}, function, catalog, WRONG, {"core": 0})
            self.assertFails(InvalidState, {"module": "store"}, function, catalog, {"core": 0}, WRONG)
            self.assertFails(NotConsistent, {"user": "core", "used": "store"}, function, catalog, WRONG, LOW)
            self.assertFails(NotConsistent, {"user": "core", "used": "store"}, function, catalog, HIGH, WRONG)
            # The first conflict of one comes before that of other.
            self.assertFails(NotConsistent, {"user": "shell", "used": "core"}, function, catalog, late, WRONG)
            self.assertFails(NotConsistent, {"user": "core", "used": "store"}, function, catalog, WRONG, late)
            self.assertFails(NotBelow, {"module": "core"}, function, catalog, HIGH, LOW)
            one = {"core": 1, "store": 0, "shell": 1}
            self.assertFails(NotBelow, {"module": "shell"}, function, catalog, one, {"core": 1, "store": 1, "shell": 0})

    def test_no_consistent_state_at_all(self):
        catalog = stuck_catalog()
        for function in [done_steps, available_steps]:
            self.assertFails(NotConsistent, {"user": "core", "used": "store"}, function, catalog,
                             {"core": 0, "store": 0})
        self.assertFails(NotConsistent, {"user": "core", "used": "store"}, plan_for, catalog,
                         {"core": 0, "store": 0}, [("core", 9)])


class GoalErrors(StepCase):
    def test_no_goals(self):
        catalog = doc_catalog()
        for function in [*GOAL_FUNCTIONS, listed(walk)]:
            for value in [value for value in wrong_kinds() if not isinstance(value, list)] + [(("core", 1),), "core"]:
                self.assertFails(InvalidGoals, {"position": None}, function, catalog, LOW, value)
            for item in [*wrong_kinds(), "core", ["core", 1], ("core", True), ("log", 0), ("core", -1), ("core", 1, 1)]:
                for position, goals in enumerate([[item, None], [("core", 1), item, ("shell", 99)]]):
                    self.assertFails(InvalidGoals, {"position": position}, function, catalog, LOW, goals)

    def test_which_error_comes_first(self):
        catalog = doc_catalog()
        for function in [*GOAL_FUNCTIONS, listed(walk)]:
            self.assertFails(InvalidState, {"module": None}, function, catalog, None, None)
            self.assertFails(NotConsistent, {"user": "core", "used": "store"}, function, catalog, WRONG, None)
            self.assertFails(InvalidGoals, {"position": 1}, function, catalog, LOW, [("core", 99), None])
            self.assertUnreachable(catalog, ("core", 99), function, catalog, HIGH, [("core", 2), ("core", 99), ("core", 98)])

    def test_no_goal_needs_no_step(self):
        catalog = doc_catalog()
        for goals in [[], [("core", 0)], [("core", 1), ("core", 1)]]:
            state = {"core": 1, "store": 0, "shell": 0}
            self.assertSame(target_state(catalog, state, goals), state)
            for function in [plan_for, rounds, longest_sequence, listed(walk)]:
                self.assertSame(function(catalog, state, goals), [])


class StepErrors(StepCase):
    def test_state_with(self):
        catalog = doc_catalog()
        for value in [value for value in wrong_kinds() if not isinstance(value, list)] + [(CORE,), CORE]:
            self.assertFails(InvalidSteps, {"position": None}, state_with, catalog, value)
        for value in no_steps():
            self.assertFails(InvalidSteps, {"position": 0}, state_with, catalog, [value])
            # The step that lacks a need counts only after all items.
            self.assertFails(InvalidSteps, {"position": 2}, state_with, catalog, [STORE, SHELL, value, value])
        self.assertFails(InvalidSteps, {"position": 2}, state_with, catalog, [STORE, CORE, STORE, None])
        self.assertFails(InvalidSteps, {"position": 1}, state_with, catalog, [STORE, None, STORE])
        self.assertSame(state_with(catalog, []), LOW)
        self.assertSame(state_with(catalog, all_steps(catalog)[::-1]), HIGH)
        for value in [None, [None], [CORE, CORE], []]:
            self.assertNoState(stuck_catalog(), state_with, stuck_catalog(), value)

    def test_missing_needs(self):
        catalog = doc_catalog()
        for steps, missing in [([STORE], STORE), ([SHELL, STORE], STORE), ([(("shell", 1, 2),), STORE], (("shell", 1, 2),)),
                               ([SHELL, CORE, (("core", 1, 2),)], (("core", 1, 2),))]:
            error = self.caught(state_with, catalog, steps)
            self.assertIs(error.__class__, MissingNeed)
            self.assertSame(error.step, missing)

    def test_is_plan(self):
        catalog = doc_catalog()
        for value in wrong_kinds():
            self.assertIs(is_plan(catalog, LOW, value), False)
        for value in no_steps():
            self.assertIs(is_plan(catalog, LOW, [value]), False)
            self.assertIs(is_plan(catalog, LOW, [CORE, value]), False)
        for value, expected in [([], True), ([CORE], True), ([CORE, CORE], False), ([STORE], False), ((CORE,), False),
                                ([CORE, STORE, SHELL], True), ([SHELL, CORE, STORE, (("core", 1, 2),)], True)]:
            self.assertIs(is_plan(catalog, LOW, value), expected)

    def test_state_after(self):
        catalog = doc_catalog()
        for value in [value for value in wrong_kinds() if not isinstance(value, list)] + [(CORE,)]:
            self.assertFails(InvalidSteps, {"position": None}, state_after, catalog, LOW, value)
        for value in no_steps():
            self.assertFails(InvalidSteps, {"position": 1}, state_after, catalog, LOW, [STORE, value, value])
        # A step that occurs twice is a step, but it is not available any more.
        self.assertFails(NotAvailable, {"step": CORE}, state_after, catalog, LOW, [CORE, CORE])
        self.assertFails(NotAvailable, {"step": STORE}, state_after, catalog, LOW, [STORE, CORE])
        self.assertFails(NotAvailable, {"step": CORE}, state_after, catalog, HIGH, [CORE])
        self.assertSame(state_after(catalog, {"shell": 0, "store": 0, "core": 0}, []), LOW)

    def test_which_error_comes_first(self):
        catalog = doc_catalog()
        self.assertFails(InvalidState, {"module": None}, state_after, catalog, None, None)
        self.assertFails(NotConsistent, {"user": "core", "used": "store"}, state_after, catalog, WRONG, None)
        self.assertFails(InvalidSteps, {"position": None}, state_after, catalog, LOW, STORE)
        self.assertFails(InvalidState, {"module": None}, is_plan, catalog, None, None)


class Generators(StepCase):
    def test_errors_come_when_the_iteration_begins(self):
        catalog = doc_catalog()
        for made in [walk(catalog, None, None), ways(catalog, None, None)]:
            self.assertIs(iter(made), made)
            self.assertFails(InvalidState, {"module": None}, next, made)

    def test_the_iteration_can_be_left_and_taken_up_again(self):
        catalog = doc_catalog()
        first = next(walk(catalog, LOW, [("shell", 2)]))
        self.assertSame(first, (CORE, {**LOW, "core": 1}))
        first[1].clear()
        made = walk(catalog, LOW, [("shell", 2)])
        next(made)[1].clear()
        self.assertSame(next(made), (STORE, {"core": 1, "store": 1, "shell": 0}))
        made = ways(catalog, LOW, HIGH)
        next(made).clear()
        self.assertEqual(len(next(made)), 5)
        self.assertEqual(len(list(made)), 1)

    def test_from_a_state_to_itself(self):
        self.assertSame(list(ways(doc_catalog(), HIGH, HIGH)), [[]])
        self.assertSame(list(walk(doc_catalog(), HIGH, [("core", 2)])), [])

    def test_lists_in_sequence(self):
        self.assertSame(list(ways(doc_catalog(), LOW, {"core": 1, "store": 1, "shell": 1})),
                        [[CORE, STORE, SHELL], [CORE, SHELL, STORE], [SHELL, CORE, STORE]])


class Arguments(StepCase):
    def test_by_name(self):
        catalog, goals = doc_catalog(), [("shell", 2)]
        for function in [done_steps, available_steps]:
            self.assertSame(function(catalog=catalog, state=LOW), function(catalog, LOW))
        for function in [difference, listed(ways)]:
            self.assertSame(function(catalog=catalog, one=LOW, other=HIGH), function(catalog, LOW, HIGH))
        for function in [*GOAL_FUNCTIONS, listed(walk)]:
            self.assertSame(function(catalog=catalog, state=LOW, goals=goals), function(catalog, LOW, goals))
        self.assertSame(state_with(catalog=catalog, steps=[CORE]), state_with(catalog, [CORE]))
        self.assertIs(is_plan(catalog=catalog, state=LOW, value=[CORE]), True)
        self.assertSame(state_after(catalog=catalog, state=LOW, steps=[CORE]), state_after(catalog, LOW, [CORE]))

    def test_arguments_stay_and_results_are_new(self):
        catalog, state, other, goals, steps = doc_catalog(), dict(LOW), dict(HIGH), [("shell", 2)], [CORE, STORE]
        calls = [
            lambda: done_steps(catalog, other), lambda: available_steps(catalog, state),
            lambda: difference(catalog, state, other), lambda: list(ways(catalog, state, other)),
            lambda: state_with(catalog, steps), lambda: state_after(catalog, state, steps),
            lambda: state_after(catalog, state, []), lambda: list(walk(catalog, state, goals)),
            lambda: rounds(catalog, state, goals),
            *[lambda f=f: f(catalog, state, goals) for f in GOAL_FUNCTIONS], lambda: target_state(catalog, state, []),
        ]
        for call in calls:
            first = call()
            before = repr(first)
            for inner in [item for item in first if isinstance(item, list)]:
                inner.clear()
            first.clear()
            self.assertEqual(repr(call()), before)
        self.assertSame((state, other, goals, steps), (LOW, HIGH, [("shell", 2)], [CORE, STORE]))
        self.assertEqual(catalog, doc_catalog())


class Large(StepCase):
    def test_large_catalogs(self):
        for seed, spread in [(1, 0), (2, 1), (3, 15)]:
            catalog = large_catalog(seed, spread)
            low, high = least_state(catalog), greatest_state(catalog)
            goals = [(module, high[module]) for module in catalog.modules()]
            steps = all_steps(catalog)
            plan = plan_for(catalog, low, goals)
            self.assertEqual(sorted(plan), sorted(steps))
            self.assertSame(state_after(catalog, low, plan), high)
            self.assertSame(state_with(catalog, plan), high)
            self.assertSame(difference(catalog, low, high), steps)
            sequence = longest_sequence(catalog, low, goals)
            self.assertEqual(len(sequence), len(rounds(catalog, low, goals)))
            for first, second in list(zip(sequence, sequence[1:]))[::5]:
                self.assertIn(first, needs(catalog, second))
            for way in islice(ways(catalog, low, high), 3):
                self.assertIs(is_plan(catalog, low, way), True)

    def test_many_modules_that_switch_alone(self):
        catalog = catalog_of([("m" + letter, (), [[] for version in range(16)]) for letter in "abcdefghijkl"])
        low, high = least_state(catalog), greatest_state(catalog)
        goals = [(module, 15) for module in catalog.modules()]
        self.assertEqual([len(steps) for steps in rounds(catalog, low, goals)], [12] * 15)
        first = next(ways(catalog, low, high))
        self.assertSame(first, all_steps(catalog))

    def test_a_line(self):
        catalog = line_catalog(12, 16)
        low, high = least_state(catalog), greatest_state(catalog)
        self.assertSame(list(ways(catalog, low, high)), [all_steps(catalog)])


if __name__ == "__main__":
    unittest.main()
