import unittest
from itertools import product

from groupsteps.catalogs import Catalog, catalog_of
from groupsteps.errors import InvalidStep, InvalidVersion, NoState, NoStep, UnknownModule, Unreachable
from groupsteps.least import greatest_state, greatest_with, least_state, least_with
from groupsteps.steps import (all_steps, direct_needs, end_of, is_step, needed_by, needs, start_of, step_to,
                              why_together)
from tests.brute import Brute
from tests.small import (Numbers, below, close_catalogs, consistent_states, doc_catalog, fewest, line_catalog,
                         own_is_chain, own_settled, random_catalogs, rising_windows)
from tests.support import StrictCase, Touchy, wrong_kinds

LOW, HIGH = (("core", 0, 1),), (("core", 1, 2),)


def pair_catalog():
    return catalog_of([("core", ("store",), [[(0, 0)], [(1, 2)]]), ("store", ("core",), [[(0, 0)], [(1, None)]])])


def stuck_catalog():
    """No consistent state: the only version of one module works with no version of the other one."""
    return catalog_of([("core", ("store",), [[(1, 1)]]), ("store", (), [[]])])


def large_catalog(seed, spread):
    """12 modules with 16 versions each, and 40 uses."""
    numbers = Numbers(seed)
    names = ["m" + letter for letter in "abcdefghijkl"]
    pairs = [(one, other) for one in names for other in names if one != other]
    uses = {name: () for name in names}
    for number in range(40):
        user, used = pairs.pop(numbers.below(len(pairs)))
        uses[user] = (*uses[user], used)
    catalog = Catalog(uses)
    for name in names:
        for version in range(16):
            catalog.publish(name, [(max(0, version - spread), version + spread) for used in uses[name]])
    return catalog


def no_steps():
    """Values that are no steps of the document's catalog."""
    return [
        *wrong_kinds(), "", "core:0:1", [("core", 0, 1)], (["core", 0, 1],), ("core", 0, 1), (("core", 0, 1), ()),
        (("core", False, 1),), (("core", 0, True),), (("core", 1, True),), (("core", False, True),), (("core", 0, 2),),
        (("core", 1, 0),), (("core", 0, 0),), (("core", 0, 1, 2),), (("core", 0),), (("Core", 0, 1),), ((b"core", 0, 1),),
        (("core", 0, 1), ("store", 0, 1)), (("store", 0, 1), ("core", 0, 1)), (("core", 0, 1), ("core", 0, 1)),
        (("core", 0, 1), ("core", 1, 2)), (("log", 0, 1),), (("core", 2, 3),), (("core", 0, None),), ((Touchy(), 0, 1),),
        (("core", Touchy(), 1),), (("core", 0, Touchy()),), (Touchy(),), (("core", 0, 1), Touchy()), ((["core"], 0, 1),),
        (("core", [0], 1),), (("core", 0, {}),), ((("core",), 0, 1),), ((("core", 0, 1),),), (("core", -1, 1),),
        (("core", 0, "1"),), (("core", 0, 10 ** 59),), {("core", 0, 1)}, {("core", 0, 1): 1},
    ]


class StepCase(StrictCase):
    def assertFewest(self, chain, catalog, start, module, version):
        """A chain from a demand to one of the module with this settled version, and none is shorter."""
        self.assertTrue(own_is_chain(catalog, chain))
        self.assertEqual(chain[0], start)
        self.assertEqual((chain[-1][0], own_settled(catalog, chain[-1])), (module, version))

        def wanted(demand):
            return demand[0] == module and own_settled(catalog, demand) == version
        self.assertEqual(len(chain), fewest(catalog, [start], wanted))

    def assertUnreachable(self, catalog, demand, function, *args, **named):
        error = self.caught(function, *args, **named)
        self.assertIs(error.__class__, Unreachable)
        self.assertTrue(own_is_chain(catalog, error.chain))
        self.assertEqual(error.chain[0], demand)
        self.assertIsNone(own_settled(catalog, error.chain[-1]))
        self.assertEqual(len(error.chain), fewest(catalog, [demand], lambda each: own_settled(catalog, each) is None))

    def assertNoState(self, catalog, function, *args, **named):
        error = self.caught(function, *args, **named)
        self.assertIs(error.__class__, NoState)
        starts = [(name, 0) for name in catalog.modules()]
        self.assertTrue(own_is_chain(catalog, error.chain))
        self.assertIn(error.chain[0], starts)
        self.assertIsNone(own_settled(catalog, error.chain[-1]))
        self.assertEqual(len(error.chain), fewest(catalog, starts, lambda each: own_settled(catalog, each) is None))


class AgainstLists(StepCase):
    def setUp(self):
        catalogs = random_catalogs(300, seed=31) + close_catalogs(300, seed=34)
        self.with_states = [(catalog, Brute(catalog)) for catalog in catalogs if consistent_states(catalog)]
        self.without = [catalog for catalog in catalogs if not consistent_states(catalog)]
        self.assertGreater(len(self.with_states), 200)
        self.assertGreater(len(self.without), 50)

    def test_all_steps(self):
        glued = 0
        for catalog, brute in self.with_states:
            self.assertSame(all_steps(catalog), brute.steps)
            glued += sum(len(step) > 1 for step in brute.steps)
            for module in catalog.modules():
                named = [step for step in brute.steps if module in [name for name, old, new in step]]
                self.assertSame(all_steps(catalog, module=module), named)
        self.assertGreater(glued, 50)

    def test_starts_and_ends(self):
        for catalog, brute in self.with_states:
            for step in brute.steps:
                self.assertSame(start_of(catalog, step), brute.starts[step])
                self.assertSame(end_of(catalog, step), brute.ends[step])

    def test_needs(self):
        for catalog, brute in self.with_states:
            for step in brute.steps:
                self.assertSame(needs(catalog, step), brute.needs(step))
                self.assertSame(direct_needs(catalog, step), brute.direct_needs(step))
                self.assertSame(needed_by(catalog, step), brute.needed_by(step))

    def test_is_step(self):
        for catalog, brute in self.with_states[:120]:
            versions = range(4)
            for old, new, *names in product(versions, versions, catalog.modules(), catalog.modules()):
                for value in [((names[0], old, new),), ((names[0], old, new), (names[1], old, new))]:
                    self.assertIs(is_step(catalog, value), value in brute.steps)
            for step in brute.steps:
                self.assertIs(is_step(catalog, step), True)
                self.assertIs(is_step(catalog, list(step)), False)
                self.assertIs(is_step(catalog, step[::-1]), len(step) == 1)

    def test_step_to(self):
        counts = {"steps": 0, "none": 0, "unreachable": 0}
        for catalog, brute in self.with_states:
            for module in catalog.modules():
                for version in [*range(catalog.versions(module) + 2), 10 ** 59]:
                    end = brute.least_with([(module, version)])
                    if version <= brute.least[module]:
                        counts["none"] += 1
                        self.assertFails(NoStep, {"module": module, "version": version},
                                         step_to, catalog, module, version)
                    elif end is None:
                        counts["unreachable"] += 1
                        self.assertUnreachable(catalog, (module, version), step_to, catalog, module, version)
                    else:
                        counts["steps"] += 1
                        step = step_to(catalog, module, version)
                        self.assertEqual(brute.ends[step], end)
        self.assertTrue(all(count > 100 for count in counts.values()), counts)

    def test_why_together(self):
        for catalog, brute in self.with_states:
            for step in brute.steps:
                for (one, old, new), (other, other_old, other_new) in product(step, step):
                    chains = why_together(catalog, step, one, other)
                    self.assertIs(chains.__class__, tuple)
                    there, back = chains
                    self.assertFewest(there, catalog, (one, new), other, other_new)
                    self.assertFewest(back, catalog, (other, other_new), one, new)
                    if one == other:
                        self.assertSame(chains, ([(one, new)], [(one, new)]))

    def test_without_consistent_state(self):
        for catalog in self.without:
            module = catalog.modules()[0]
            step = ((module, 0, 1),)
            self.assertNoState(catalog, all_steps, catalog)
            self.assertNoState(catalog, all_steps, catalog, module=module)
            self.assertNoState(catalog, step_to, catalog, module, 0)
            self.assertNoState(catalog, step_to, catalog, module, 99)
            for function in [start_of, end_of, needs, direct_needs, needed_by]:
                self.assertNoState(catalog, function, catalog, step)
            self.assertNoState(catalog, why_together, catalog, step, module, module)
            self.assertIs(is_step(catalog, step), False)

    def test_the_same_steps_on_every_way(self):
        ways = 0
        for catalog, brute in self.with_states:
            if len(brute.states) > 40:
                continue
            waiting = [(brute.least, ())]
            while waiting and ways < 4000:
                state, switched = waiting.pop()
                for above in brute.covers(state):
                    switch = tuple((name, state[name], above[name]) for name in state if state[name] != above[name])
                    self.assertIs(is_step(catalog, switch), True)
                    waiting.append((above, (*switched, switch)))
                if state == brute.greatest:
                    ways += 1
                    self.assertEqual(len(switched), len(set(switched)))
                    self.assertEqual(set(switched), set(all_steps(catalog)))
        self.assertGreater(ways, 1000)


class Changes(StepCase):
    def test_publishing_changes_no_step(self):
        numbers, more = Numbers(8), 0
        for catalog in random_catalogs(200, seed=32) + close_catalogs(200, seed=36):
            if not consistent_states(catalog):
                continue
            before = all_steps(catalog)
            module = catalog.modules()[numbers.below(len(catalog))]
            last = [catalog.window(module, used, catalog.versions(module) - 1) for used in catalog.uses(module)]
            rising = [rising_windows(numbers, 1, 3)[0] for used in last]
            catalog.publish(module, [(low + a, None if high is None or b is None else high + a + b)
                                     for (low, high), (a, b) in zip(last, rising)])
            after = all_steps(catalog)
            self.assertSame(after, Brute(catalog).steps)
            self.assertEqual([step for step in after if step in before], before)
            more += len(after) > len(before)
        self.assertGreater(more, 50)

    def test_withdrawing_glues_steps(self):
        numbers, glued, none = Numbers(9), 0, 0
        for catalog in random_catalogs(200, seed=33) + close_catalogs(300, seed=35):
            if not consistent_states(catalog):
                continue
            old = Brute(catalog)
            module = catalog.modules()[numbers.below(len(catalog))]
            available = catalog.available(module)
            catalog.withdraw(module, available[numbers.below(len(available))])
            if not consistent_states(catalog):
                none += 1
                self.assertNoState(catalog, all_steps, catalog)
                continue
            new = all_steps(catalog)
            self.assertSame(new, Brute(catalog).steps)
            parts = [[each for each in old.steps if below(old.ends[each], end_of(catalog, step))
                      and not below(old.ends[each], start_of(catalog, step))] for step in new]
            self.assertTrue(all(parts))
            used = [each for part in parts for each in part]
            self.assertEqual(len(used), len(set(used)))
            glued += sum(len(part) > 1 for part in parts)
        self.assertGreater(glued, 30)
        self.assertGreater(none, 10)

    def test_the_present_catalog_decides(self):
        catalog = doc_catalog()
        first = all_steps(catalog)
        catalog.withdraw("core", 1)
        self.assertSame(all_steps(catalog), [(("core", 0, 2), ("store", 0, 1)), (("shell", 0, 1),), (("shell", 1, 2),)])
        self.assertIs(is_step(catalog, LOW), False)
        self.assertFails(InvalidStep, {"value": LOW}, end_of, catalog, LOW)
        catalog.publish("shell", [(2, None)])
        self.assertIs(is_step(catalog, (("shell", 2, 3),)), True)
        self.assertEqual(len(first), 5)


class Errors(StepCase):
    def test_values_that_are_no_steps(self):
        catalog = doc_catalog()
        for value in no_steps():
            self.assertIs(is_step(catalog, value), False)
            for function in [start_of, end_of, needs, direct_needs, needed_by]:
                self.assertFails(InvalidStep, {"value": value}, function, catalog, value)
            self.assertFails(InvalidStep, {"value": value}, why_together, catalog, value, "core", "core")

    def test_part_of_a_step_is_none(self):
        catalog = pair_catalog()
        self.assertSame(all_steps(catalog), [(("core", 0, 1), ("store", 0, 1))])
        for value in [(("core", 0, 1),), (("store", 0, 1),), (("store", 0, 1), ("core", 0, 1))]:
            self.assertIs(is_step(catalog, value), False)

    def test_no_module(self):
        catalog, step = doc_catalog(), LOW
        for value in [*wrong_kinds(), "log", "", "Core", b"core"]:
            self.assertFails(UnknownModule, {"value": value}, step_to, catalog, value, 1)
            self.assertFails(UnknownModule, {"value": value}, why_together, catalog, step, value, "core")
            self.assertFails(UnknownModule, {"value": value}, why_together, catalog, step, "core", value)
            if value is not None:
                self.assertFails(UnknownModule, {"value": value}, all_steps, catalog, module=value)
        self.assertFails(UnknownModule, {"value": "store"}, why_together, catalog, step, "core", "store")
        self.assertFails(UnknownModule, {"value": "store"}, why_together, catalog, step, "store", "shell")

    def test_no_version(self):
        for value in [*wrong_kinds(), "1"]:
            self.assertFails(InvalidVersion, {"value": value}, step_to, doc_catalog(), "core", value)

    def test_which_error_comes_first(self):
        stuck, catalog = stuck_catalog(), doc_catalog()
        self.assertFails(UnknownModule, {"value": "log"}, all_steps, stuck, module="log")
        self.assertFails(UnknownModule, {"value": "log"}, step_to, stuck, "log", -1)
        version = -1
        self.assertFails(InvalidVersion, {"value": version}, step_to, stuck, "core", version)
        self.assertNoState(stuck, step_to, stuck, "core", 0)
        for function in [start_of, end_of, needs, direct_needs, needed_by]:
            self.assertNoState(stuck, function, stuck, None)
        self.assertNoState(stuck, why_together, stuck, None, None, None)
        self.assertFails(InvalidStep, {"value": None}, why_together, catalog, None, "log", "log")
        self.assertFails(UnknownModule, {"value": "log"}, why_together, catalog, LOW, "log", "")

    def test_is_step_is_false_where_no_state_is(self):
        for value in [LOW, *no_steps()]:
            self.assertIs(is_step(stuck_catalog(), value), False)

    def test_arguments_by_name(self):
        catalog, step = doc_catalog(), LOW
        self.assertSame(all_steps(catalog=catalog, module=None), all_steps(catalog))
        self.assertSame(is_step(catalog=catalog, value=step), True)
        self.assertSame(step_to(catalog=catalog, module="core", version=1), step)
        for function in [start_of, end_of, needs, direct_needs, needed_by]:
            self.assertSame(function(catalog=catalog, step=step), function(catalog, step))
        self.assertSame(why_together(catalog=catalog, step=step, one="core", other="core"),
                        ([("core", 1)], [("core", 1)]))
        self.assertRaises(TypeError, all_steps, catalog, "core")


class Results(StepCase):
    def test_results_are_new(self):
        catalog = doc_catalog()
        for function in [start_of, end_of, needs, direct_needs, needed_by]:
            first = function(catalog, HIGH)
            before = repr(first)
            first.clear()
            self.assertEqual(repr(function(catalog, HIGH)), before)
        all_steps(catalog).clear()
        self.assertEqual(len(all_steps(catalog)), 5)
        there, back = why_together(catalog, HIGH, "core", "core")
        there.clear()
        self.assertSame(back, [("core", 2)])
        self.assertSame(catalog, doc_catalog())

    def test_no_step_at_all(self):
        catalog = catalog_of([("core", (), [[]]), ("store", ("core",), [[(0, 0)]])])
        self.assertSame(all_steps(catalog), [])
        self.assertSame(all_steps(catalog, module="store"), [])
        self.assertFails(NoStep, {"module": "core", "version": 0}, step_to, catalog, "core", 0)

    def test_withdrawn_versions_between(self):
        catalog = catalog_of([("core", (), [[], [], [], []])])
        catalog.withdraw("core", 0)
        catalog.withdraw("core", 2)
        self.assertSame(all_steps(catalog), [(("core", 1, 3),)])
        self.assertSame(step_to(catalog, "core", 2), (("core", 1, 3),))
        self.assertFails(NoStep, {"module": "core", "version": 1}, step_to, catalog, "core", 1)


class Large(StepCase):
    def test_a_line_switches_as_a_whole(self):
        catalog = line_catalog(12, 16)
        steps = all_steps(catalog)
        self.assertEqual(len(steps), 15)
        self.assertTrue(all(len(step) == 12 for step in steps))
        self.assertSame(needs(catalog, steps[-1]), steps[:-1])
        self.assertSame(direct_needs(catalog, steps[-1]), steps[-2:-1])
        there, back = why_together(catalog, steps[4], "ma", "ml")
        self.assertEqual((len(there), len(back)), (12, 12))

    def test_large_catalogs_by_definition(self):
        for seed, spread in [(1, 0), (2, 1), (3, 2), (4, 15)]:
            catalog = large_catalog(seed, spread)
            steps = all_steps(catalog)
            least, greatest = least_state(catalog), greatest_state(catalog)
            places = catalog.modules()
            self.assertEqual(steps, sorted(steps, key=lambda step: (places.index(step[0][0]), step[0][2])))
            # Each module is switched from its least to its greatest version, without a gap.
            for module in places:
                moves = sorted((old, new) for step in steps for name, old, new in step if name == module)
                reached = least[module]
                for old, new in moves:
                    self.assertEqual(old, reached)
                    reached = new
                self.assertEqual(reached, greatest[module])
            for step in steps[::17]:
                module, old, new = step[0]
                end = least_with(catalog, module, new)
                self.assertSame(end_of(catalog, step), end)
                start = start_of(catalog, step)
                tops = greatest_with(catalog, module, old)
                # The start is the greatest state below the end that has not switched the module.
                self.assertTrue(below(start, tops) and below(start, end))
                self.assertEqual(start, {name: min(end[name], tops[name]) for name in end})


if __name__ == "__main__":
    unittest.main()
