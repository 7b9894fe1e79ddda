"""The least and the greatest states [14], [15], against lists of all consistent states of small catalogs."""

import unittest

from groupsteps.catalogs import Catalog, catalog_of
from groupsteps.demands import is_chain, settled
from groupsteps.errors import InvalidVersion, NoState, Unreachable, UnknownModule
from groupsteps.least import greatest_state, greatest_with, least_meeting, least_state, least_with, why
from tests.small import (
    below, consistent_states, doc_catalog, fewest, line_catalog, own_is_chain, own_settled, random_catalogs)
from tests.support import StrictCase, Touchy, wrong_kinds

SIXTY = int("9" * 60)
NO_MODULES = [None, True, 0, "", "Core", "ghost", "cor", b"core", ["core"], ("core",), {"core": 1}, {"core"}, Touchy()]
NO_VERSIONS = wrong_kinds() + ["0", "1", b"1", -SIXTY]
WITH = [least_with, greatest_with]


def no_state():
    """b is used from version 2 on, and has versions 0 and 1 only."""
    return catalog_of([("a", ("b",), [[(2, 2)]]), ("b", (), [[], []]), ("d", (), [[]])])


def bottom(states):
    return [state for state in states if all(below(state, other) for other in states)]


def top(states):
    return [state for state in states if all(below(other, state) for other in states)]


def zeros(catalog):
    return [(name, 0) for name in catalog.modules()]


class LeastCase(StrictCase):
    def assertState(self, catalog, result, expected):
        """The only state of the list, with the modules in the order of the catalog."""
        self.assertSame([result], expected)
        self.assertSame(list(result), catalog.modules())

    def assertChain(self, catalog, chain, starts, wanted):
        """A chain from one of the starts to a demand that is wanted, and as short as possible."""
        self.assertTrue(own_is_chain(catalog, chain), chain)
        self.assertIs(is_chain(catalog, chain), True)
        self.assertIn(chain[0], starts)
        self.assertTrue(wanted(chain[-1]), chain)
        self.assertEqual(len(chain), fewest(catalog, starts, wanted))

    def assertChainFails(self, error_class, catalog, starts, wanted, function, *args, **named):
        error = self.caught(function, *args, **named)
        if error.__class__ is not error_class:
            raise AssertionError(f"{error_class.__name__} expected") from error
        self.assertEqual(list(vars(error)), ["chain"])
        self.assertChain(catalog, error.chain, starts, wanted)
        again = self.caught(function, *args, **named)
        self.assertSame(again.chain, error.chain)
        error.chain.clear()
        self.assertSame(self.caught(function, *args, **named).chain, again.chain)

    def assertNoState(self, catalog, function, *args, **named):
        wanted = lambda demand: own_settled(catalog, demand) is None
        self.assertChainFails(NoState, catalog, zeros(catalog), wanted, function, *args, **named)

    def assertUnreachable(self, catalog, demand, function, *args, **named):
        wanted = lambda each: own_settled(catalog, each) is None
        self.assertChainFails(Unreachable, catalog, [demand], wanted, function, *args, **named)

    def check_extremes(self, catalog, states):
        if not states:
            self.assertNoState(catalog, least_state, catalog)
            self.assertNoState(catalog, greatest_state, catalog)
            return
        self.assertState(catalog, least_state(catalog), bottom(states))
        self.assertState(catalog, greatest_state(catalog), top(states))

    def check_with(self, catalog, states, name, version):
        if not states:
            self.assertNoState(catalog, least_with, catalog, name, version)
            self.assertNoState(catalog, greatest_with, catalog, name, version)
            return
        if above := [state for state in states if state[name] >= version]:
            self.assertState(catalog, least_with(catalog, name, version), bottom(above))
        else:
            self.assertUnreachable(catalog, (name, version), least_with, catalog, name, version)
        if under := [state for state in states if state[name] <= version]:
            self.assertState(catalog, greatest_with(catalog, name, version), top(under))
        else:
            wanted = lambda each: each[0] == name and own_settled(catalog, each) > version
            self.assertChainFails(Unreachable, catalog, zeros(catalog), wanted, greatest_with, catalog, name, version)

    def check_why(self, catalog, states, name, version, other):
        if not states:
            self.assertNoState(catalog, why, catalog, name, version, other)
            return
        met = [state for state in states if state[name] >= version]
        if not met:
            self.assertUnreachable(catalog, (name, version), why, catalog, name, version, other)
            return
        low, end = bottom(states)[0], bottom(met)[0]
        chain = why(catalog, name, version, other)
        if low[other] == end[other]:
            self.assertIsNone(chain)
            return
        self.longest = max(self.longest, len(chain))
        wanted = lambda each: each[0] == other and own_settled(catalog, each) == end[other]
        self.assertChain(catalog, chain, [(name, version)], wanted)
        self.assertSame(why(catalog, name, version, other), chain)

    def check_meeting(self, catalog, states, demands):
        if not states:
            self.assertNoState(catalog, least_meeting, catalog, **demands)
            return
        for demand in demands.items():
            if not any(state[demand[0]] >= demand[1] for state in states):
                self.assertUnreachable(catalog, demand, least_meeting, catalog, **demands)
                return
        met = [state for state in states if all(state[name] >= demands[name] for name in demands)]
        self.assertState(catalog, least_meeting(catalog, **demands), bottom(met))


class AgainstAllStates(LeastCase):
    longest = 0

    def check_all(self, catalog):
        """Every function, with every version up to two more than there are."""
        states = consistent_states(catalog)
        names = catalog.modules()
        self.check_extremes(catalog, states)
        for name in names:
            for version in range(catalog.versions(name) + 2):
                self.check_with(catalog, states, name, version)
                for other in names:
                    self.check_why(catalog, states, name, version, other)
        return len(states)

    def test_small_catalogs(self):
        counts = [self.check_all(c) for c in random_catalogs(400, seed=30)]
        self.assertGreater(counts.count(0), 50)
        self.assertGreater(len([count for count in counts if count > 2]), 50)

    def test_catalogs_with_more_versions(self):
        counts = [self.check_all(c) for c in random_catalogs(60, seed=31, most_versions=7)]
        self.assertGreater(max(counts), 20)
        self.assertGreaterEqual(self.longest, 3)

    def test_all_catalogs_of_two_modules_with_two_versions(self):
        windows = [(low, high) for low in range(3) for high in [*range(low, 3), None]]
        rising = [[[first], [second]] for first in windows for second in windows
                  if first[0] <= second[0] and (second[1] is None or first[1] is not None and first[1] <= second[1])]
        self.assertEqual([len(windows), len(rising)], [9, 40])
        for ones in rising:
            for others in rising:
                c = catalog_of([("a", ("b",), ones), ("b", ("a",), others)])
                states = consistent_states(c)
                self.check_extremes(c, states)
                self.check_with(c, states, "a", 1)
                self.check_with(c, states, "b", 0)
                self.check_why(c, states, "a", 1, "b")

    def test_several_demands(self):
        for c in random_catalogs(300, seed=32):
            states, names = consistent_states(c), c.modules()
            self.check_meeting(c, states, {})
            for first in range(3):
                for second in range(3):
                    versions = [first, second, first + second, second]
                    self.check_meeting(c, states, dict(zip(names, versions)))
                    self.check_meeting(c, states, dict(zip(names[::-1], versions[:3])))
                    self.check_meeting(c, states, dict(zip(names[1:], versions)))

    def test_again_after_publications_and_withdrawals(self):
        for c in random_catalogs(60, seed=33, most_modules=3, most_versions=3):
            for name in c.modules():
                number = c.versions(name)
                lows = [c.window(name, used, number - 1)[0] if number else 0 for used in c.uses(name)]
                c.publish(name, [(low, None) for low in lows])
                self.check_all(c)
            for name in c.modules():
                for version in c.available(name)[:2]:
                    c.withdraw(name, version)
                    self.check_all(c)

    def test_unchanged_catalogs(self):
        for c in random_catalogs(40, seed=34):
            before, history = c.clone(), c.history()
            self.check_all(c)
            self.assertEqual(c, before)
            self.assertEqual(c.history(), history)


class NoConsistentState(LeastCase):
    def test_every_function(self):
        c = no_state()
        for function, args in [(least_state, []), (greatest_state, []), (least_with, ["d", 0]), (least_with, ["d", 9]),
                               (greatest_with, ["d", 0]), (why, ["d", 9, "d"]), (why, ["a", 0, "b"]), (least_meeting, [])]:
            with self.subTest(function.__name__, args=args):
                self.assertNoState(c, function, c, *args)
                self.assertSame(self.caught(function, c, *args).chain, [("a", 0), ("b", 2)])
        self.assertNoState(c, least_meeting, c, d=9, a=0)

    def test_a_module_without_versions_is_the_shortest_reason(self):
        c = catalog_of([("a", ("b",), [[(2, 2)]]), ("b", (), [[], []]), ("d", (), [])])
        self.assertSame(self.caught(least_state, c).chain, [("d", 0)])
        c.publish("d", [])
        self.assertSame(self.caught(greatest_state, c).chain, [("a", 0), ("b", 2)])
        c.publish("b", [])
        self.assertSame(least_state(c), {"a": 0, "b": 2, "d": 0})
        c.withdraw("d", 0)
        self.assertSame(self.caught(least_with, c, "a", 0).chain, [("d", 0)])

    def test_the_errors_of_arguments_come_first(self):
        c = no_state()
        for function in WITH:
            self.assertFails(UnknownModule, {"value": "x"}, function, c, "x", -1)
            self.assertFails(InvalidVersion, {"value": -1}, function, c, "a", -1)
        self.assertFails(UnknownModule, {"value": "x"}, why, c, "x", -1, "y")
        self.assertFails(UnknownModule, {"value": "y"}, why, c, "a", -1, "y")
        self.assertFails(InvalidVersion, {"value": -1}, why, c, "a", -1, "b")
        self.assertFails(InvalidVersion, {"value": None}, least_meeting, c, a=0, b=None)


class WrongArguments(LeastCase):
    def test_unknown_modules(self):
        c = doc_catalog()
        for value in NO_MODULES:
            with self.subTest(value=repr(value)):
                for function in WITH:
                    self.assertFails(UnknownModule, {"value": value}, function, c, value, 0)
                    self.assertFails(UnknownModule, {"value": value}, function, c, value, None)
                self.assertFails(UnknownModule, {"value": value}, why, c, value, None, None)
                self.assertFails(UnknownModule, {"value": value}, why, c, "core", None, value)
                self.assertFails(UnknownModule, {"value": value}, why, c, "core", 9, value)

    def test_invalid_versions(self):
        c = doc_catalog()
        for value in NO_VERSIONS:
            with self.subTest(value=repr(value)):
                for function in WITH:
                    self.assertFails(InvalidVersion, {"value": value}, function, c, "core", value)
                self.assertFails(InvalidVersion, {"value": value}, why, c, "core", value, "store")
                self.assertFails(InvalidVersion, {"value": value}, least_meeting, c, core=value)
                self.assertFails(InvalidVersion, {"value": value}, least_meeting, c, shell=99, core=value, ghost=0)

    def test_keywords_in_order(self):
        c = doc_catalog()
        self.assertFails(UnknownModule, {"value": "ghost"}, least_meeting, c, ghost=None, core=None)
        self.assertFails(UnknownModule, {"value": "ghost"}, least_meeting, c, core=99, ghost=0)
        self.assertFails(UnknownModule, {"value": "Core"}, least_meeting, c, **{"Core": 0})
        self.assertFails(UnknownModule, {"value": "not a name"}, least_meeting, c, **{"not a name": 0})
        self.assertFails(InvalidVersion, {"value": True}, least_meeting, c, core=True, ghost=0)
        self.assertSame(self.caught(least_meeting, c, core=1, shell=7, store=8).chain, [("shell", 7)])
        self.assertSame(self.caught(least_meeting, c, store=8, core=1, shell=7).chain, [("store", 8)])

    def test_passed_by_name(self):
        c = doc_catalog()
        self.assertSame(least_state(catalog=c), {"core": 0, "store": 0, "shell": 0})
        self.assertSame(greatest_state(catalog=c), {"core": 2, "store": 1, "shell": 2})
        self.assertSame(least_with(catalog=c, module="store", version=1), {"core": 1, "store": 1, "shell": 0})
        self.assertSame(greatest_with(catalog=c, module="core", version=1), {"core": 1, "store": 1, "shell": 1})
        self.assertSame(why(catalog=c, module="shell", version=2, other="core"), [("shell", 2), ("core", 2)])
        self.assertSame(least_meeting(catalog=c, store=1), {"core": 1, "store": 1, "shell": 0})

    def test_modules_that_are_called_like_parameters(self):
        names = ["module", "version", "versions", "other", "demands", "self", "catalog"]
        c = catalog_of([(name, (), [[], []]) for name in names])
        state = least_meeting(c, module=1, version=1, versions=1, other=1, demands=1, self=1)
        self.assertSame(state, {name: int(name != "catalog") for name in names})


class Particular(LeastCase):
    def test_new_states(self):
        c = doc_catalog()
        for function, args in [(least_state, []), (greatest_state, []), (least_with, ["core", 1]), (greatest_with, ["core", 1]),
                               (least_meeting, [])]:
            expected = dict(function(c, *args))
            function(c, *args).clear()
            self.assertSame(function(c, *args), expected)
        why(c, "shell", 2, "store").clear()
        self.assertSame(why(c, "shell", 2, "store"), [("shell", 2), ("core", 2), ("store", 1)])

    def test_great_versions(self):
        c = doc_catalog()
        self.assertSame(greatest_with(c, "core", SIXTY), greatest_state(c))
        self.assertSame(self.caught(least_with, c, "core", SIXTY).chain, [("core", SIXTY)])
        self.assertSame(self.caught(why, c, "core", 3, "store").chain, [("core", 3)])

    def test_a_bound_at_a_withdrawn_version(self):
        c = doc_catalog()
        c.withdraw("core", 1)
        self.assertSame(greatest_with(c, "core", 1), {"core": 0, "store": 0, "shell": 1})
        self.assertSame(greatest_with(c, "core", 2), {"core": 2, "store": 1, "shell": 2})

    def test_a_bound_below_the_least_state(self):
        c = doc_catalog()
        c.withdraw("core", 0)
        self.assertSame(self.caught(greatest_with, c, "core", 0).chain, [("core", 0)])
        c.withdraw("core", 1)
        # store must rise with core: the demand (core, 0) is settled at 2.
        self.assertSame(self.caught(greatest_with, c, "store", 0).chain, [("core", 0), ("store", 1)])
        self.assertSame(greatest_with(c, "store", 1), {"core": 2, "store": 1, "shell": 2})

    def test_why_a_module_itself(self):
        c = doc_catalog()
        self.assertSame([why(c, "core", 2, "core"), why(c, "core", 0, "core")], [[("core", 2)], None])
        # The demand is settled at 1, but comes back as version 2.
        d = catalog_of([("a", ("b",), [[(0, 0)], [(1, 1)], [(1, 1)]]), ("b", ("a",), [[(0, 0)], [(2, 2)]])])
        self.assertSame(why(d, "a", 1, "a"), [("a", 1), ("b", 1), ("a", 2)])
        d.withdraw("a", 1)
        self.assertSame(why(d, "a", 1, "a"), [("a", 1)])

    def test_why_is_none_where_the_least_state_has_it_already(self):
        c = catalog_of([("a", ("b",), [[(1, 1)], [(1, 2)]]), ("b", (), [[], [], []])])
        # (b, 1) does follow from (a, 1), but it holds anyway.
        self.assertSame([why(c, "a", 1, "b"), why(c, "a", 0, "b"), why(c, "b", 1, "b")], [None, None, None])
        self.assertSame([why(c, "b", 2, "b"), why(c, "b", 2, "a")], [[("b", 2)], [("b", 2), ("a", 1)]])

    def test_why_depends_on_the_contents_alone(self):
        """Two catalogs that are equal, with other histories, have the same chains."""
        for c in random_catalogs(80, seed=35):
            d = Catalog({name: tuple(c.uses(name)) for name in c.modules()})
            for name in c.modules()[::-1]:
                for version in range(c.versions(name)):
                    d.publish(name, [c.window(name, used, version) for used in c.uses(name)])
            for name in c.modules()[::-1]:
                for version in range(c.versions(name))[::-1]:
                    if not c.is_available(name, version):
                        d.withdraw(name, version)
            self.assertEqual(c, d)
            for name in c.modules():
                for other in c.modules():
                    results = []
                    for each in [c, d]:
                        try:
                            results.append(why(each, name, 1, other))
                        except (NoState, Unreachable) as error:
                            results.append(error.chain)
                    self.assertSame(results[0], results[1])


class Large(LeastCase):
    def test_a_line_of_twelve(self):
        c = line_catalog(12, 16)
        names = c.modules()
        self.assertSame([least_state(c), greatest_state(c)], [dict.fromkeys(names, 0), dict.fromkeys(names, 15)])
        for version in range(16):
            self.assertSame(least_with(c, "mf", version), dict.fromkeys(names, version))
            self.assertSame(greatest_with(c, "mf", version), dict.fromkeys(names, version))
        self.assertSame(why(c, "ma", 15, "ml"), [(name, 15) for name in names])
        self.assertSame(why(c, "ml", 15, "ma"), [(name, 15) for name in names[::-1]])
        c.withdraw("ml", 7)
        self.assertSame(least_with(c, "ma", 7), dict.fromkeys(names, 8))
        self.assertSame(greatest_with(c, "ma", 7), dict.fromkeys(names, 6))
        self.assertSame(self.caught(least_with, c, "ma", 16).chain, [("ma", 16)])
        for version in [0, 1, 2]:
            c.withdraw("ml", version)
        self.assertSame(self.caught(greatest_with, c, "ma", 2).chain, [(name, 3 if name != "ml" else 0) for name in names[::-1]])

    def test_a_ring_in_which_each_version_pulls_the_next_one(self):
        """One demand raises everything to the top, one version at a time, round after round."""
        names = ["m" + letter for letter in "abcdefghijkl"]
        rows = [(name, (names[place + 1],), [[(version, None)] for version in range(16)])
                for place, name in enumerate(names[:-1])]
        last = ("ml", ("ma",), [[(version + 1 if 0 < version < 15 else version, None)] for version in range(16)])
        c = catalog_of([*rows, last])
        self.assertSame(least_with(c, "mf", 1), dict.fromkeys(names, 15))
        self.assertSame(greatest_with(c, "mf", 14), dict.fromkeys(names, 0))
        chain = why(c, "ma", 1, "ml")
        self.assertEqual(len(chain), 12 * 15)
        self.assertIs(is_chain(c, chain), True)
        c.withdraw("mf", 15)
        error = self.caught(least_with, c, "ma", 1)
        self.assertIs(error.__class__, Unreachable)
        self.assertSame([len(error.chain), error.chain[-1], settled(c, error.chain[-1])], [12 * 14 + 6, ("mf", 15), None])
        self.assertSame(greatest_state(c), dict.fromkeys(names, 0))

    def test_many_uses_and_no_version_that_works(self):
        names = ["m" + letter for letter in "abcdefghijkl"]
        uses = [tuple(names[(place + way) - 12] for way in [1, 5, 11]) for place in range(12)]
        c = catalog_of([(name, uses[place], [[(version, version + 1)] * 3 for version in range(16)])
                        for place, name in enumerate(names)])
        # Each module uses a neighbour on both sides, and both want the other one not to be behind.
        self.assertSame([least_state(c), greatest_state(c)], [dict.fromkeys(names, 0), dict.fromkeys(names, 15)])
        self.assertSame(least_with(c, "md", 9), dict.fromkeys(names, 9))
        for name in names:
            for version in [0, 7, 15]:
                self.assertSame(greatest_with(c, name, version), dict.fromkeys(names, version))
        for version in range(16):
            c.withdraw(names[version - 12 if version > 11 else version], version)
        self.assertNoState(c, least_state, c)
        self.assertNoState(c, least_meeting, c, ma=3, mb=4)


if __name__ == "__main__":
    unittest.main()
