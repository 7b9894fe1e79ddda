"""Demands [3], [11], [12], [13]: settled versions, what follows, chains, and what is demanded."""

import unittest

from groupsteps.catalogs import Catalog, catalog_of
from groupsteps.demands import demanded, failing_chain, following, is_chain, is_demand, settled
from groupsteps.errors import CannotMeet, InvalidDemand, Unreachable
from tests.small import (
    consistent_states, distances, doc_catalog, fewest, line_catalog, own_following, own_is_chain, own_settled,
    random_catalogs)
from tests.support import StrictCase, Touchy, wrong_kinds

SIXTY = int("9" * 60)
QUERIES = [settled, following, failing_chain, demanded]


def no_demands():
    return wrong_kinds() + [
        (), ("core",), ("core", 0, 0), ["core", 0], ["core", "0"], "core", ("core", -1), ("core", True), ("core", False),
        ("core", None), ("core", "0"), ("core", b"0"), ("core", [0]), ("core", (0,)), ("core", Touchy()), ("ghost", 0),
        ("Core", 0), ("", 0), (0, "core"), (None, 0), (True, 0), (b"core", 0), (["core"], 0), (("core",), 0),
        ({"core": 0}, 0), (Touchy(), 0), (Touchy(), Touchy()), {"core": 0}, {("core", 0)}, [("core", 0)], (("core", 0),),
    ]


def demands_around(catalog):
    """Every demand with a version up to two more than there are."""
    return [(name, version) for name in catalog.modules() for version in range(catalog.versions(name) + 3)]


def failing(catalog):
    return lambda demand: own_settled(catalog, demand) is None


class IsDemand(StrictCase):
    def test_demands(self):
        c = doc_catalog()
        for demand in [("core", 0), ("core", 2), ("core", 3), ("store", 5), ("shell", SIXTY)]:
            self.assertIs(is_demand(c, demand), True)
        self.assertIs(is_demand(catalog=c, value=("core", 1)), True)
        self.assertIs(is_demand(Catalog({"core": ()}), ("core", 0)), True)

    def test_no_demands(self):
        for value in no_demands():
            with self.subTest(value=repr(value)):
                self.assertIs(is_demand(doc_catalog(), value), False)

    def test_every_query_refuses_them(self):
        for function in QUERIES:
            for value in no_demands():
                with self.subTest(function.__name__, value=repr(value)):
                    self.assertFails(InvalidDemand, {"value": value}, function, doc_catalog(), value)

    def test_passed_by_name(self):
        c = doc_catalog()
        results = [function(catalog=c, demand=("store", 1)) for function in QUERIES]
        self.assertSame(results, [1, [("core", 1)], None, {"core": 1, "store": 1}])
        self.assertIs(is_chain(catalog=c, value=[("store", 1)]), True)


class Settled(StrictCase):
    def test_withdrawn_versions(self):
        c = catalog_of([("core", (), [[]] * 6)])
        for version in [0, 2, 3, 5]:
            c.withdraw("core", version)
        self.assertSame([settled(c, ("core", version)) for version in range(8)], [1, 1, 4, 4, 4, None, None, None])
        self.assertSame(settled(c, ("core", SIXTY)), None)
        c.publish("core", [])
        self.assertSame([settled(c, ("core", version)) for version in range(8)], [1, 1, 4, 4, 4, 6, 6, None])

    def test_no_version(self):
        c = Catalog({"core": ()})
        self.assertSame(settled(c, ("core", 0)), None)
        c.publish("core", [])
        self.assertSame([settled(c, ("core", 0)), settled(c, ("core", 1))], [0, None])
        c.withdraw("core", 0)
        self.assertSame(settled(c, ("core", 0)), None)

    def test_against_small_catalogs(self):
        for c in random_catalogs(200, seed=20):
            for demand in demands_around(c):
                self.assertSame(settled(c, demand), own_settled(c, demand))


class Following(StrictCase):
    def test_used_modules_then_users(self):
        c = catalog_of([
            ("a", ("b",), [[(0, 0)], [(0, 0)], [(0, 9)]]),
            ("b", ("d", "a", "c"), [[(3, 3), (2, 2), (0, 1)], [(7, 8), (2, 4), (4, None)]]),
            ("c", (), [[]]),
            ("d", ("b",), [[(0, 0)], [(0, 1)]]),
        ])
        # d is used from 7 on, and must be at least 1 for its own sake: two demands.
        self.assertSame(following(c, ("b", 1)), [("d", 7), ("a", 2), ("c", 4), ("d", 1)])
        # Version 0 is left out, and what follows from it is shown all the same.
        self.assertSame(following(c, ("b", 0)), [("d", 3), ("a", 2)])
        self.assertSame(following(c, ("a", 0)), [])
        self.assertSame(following(c, ("d", 1)), [])
        # c has one version; b works with c 0 and 1.
        self.assertSame(following(c, ("c", 0)), [])

    def test_a_repeated_demand_is_left_out(self):
        c = catalog_of([("a", ("b",), [[(0, 0)], [(1, 1)]]), ("b", ("a",), [[(0, 0)], [(0, 1)]])])
        self.assertSame(following(c, ("a", 1)), [("b", 1)])
        self.assertSame(following(c, ("b", 1)), [("a", 1)])

    def test_users_that_never_work_with_it(self):
        c = catalog_of([("a", (), [[], []]), ("b", ("a",), [[(0, 0)], [(0, 0)]]), ("d", ("a",), [])])
        self.assertSame(following(c, ("a", 1)), [("b", 2)])
        self.assertSame(following(c, ("a", 0)), [])
        c.publish("b", [(0, 0)])
        self.assertSame(following(c, ("a", 1)), [("b", 3)])
        c.publish("b", [(0, 1)])
        self.assertSame(following(c, ("a", 1)), [("b", 3)])
        c.withdraw("b", 3)
        self.assertSame(following(c, ("a", 1)), [("b", 3)])
        c.publish("d", [(0, 0)])
        self.assertSame(following(c, ("a", 1)), [("b", 3), ("d", 1)])

    def test_the_settled_version_decides(self):
        c = doc_catalog()
        self.assertSame(following(c, ("core", 1)), [])
        c.withdraw("core", 1)
        self.assertSame(following(c, ("core", 1)), [("store", 1), ("shell", 1)])

    def test_cannot_meet(self):
        c = doc_catalog()
        self.assertFails(CannotMeet, {"module": "core", "version": 3}, following, c, ("core", 3))
        self.assertFails(CannotMeet, {"module": "shell", "version": SIXTY}, following, c, ("shell", SIXTY))
        c.withdraw("core", 2)
        self.assertFails(CannotMeet, {"module": "core", "version": 2}, following, c, ("core", 2))
        self.assertFails(CannotMeet, {"module": "a", "version": 0}, following, Catalog({"a": ()}), ("a", 0))

    def test_against_small_catalogs(self):
        for c in random_catalogs(300, seed=21):
            for demand in demands_around(c):
                if own_settled(c, demand) is None:
                    self.assertFails(CannotMeet, dict(zip(["module", "version"], demand)), following, c, demand)
                else:
                    self.assertSame(following(c, demand), own_following(c, demand))

    def test_what_follows_holds_where_the_demand_is_met(self):
        """[3]: each consistent state that meets a demand meets what follows from it."""
        for c in random_catalogs(150, seed=22):
            states = consistent_states(c)
            for demand in demands_around(c):
                if own_settled(c, demand) is not None:
                    after = following(c, demand)
                    for state in states:
                        if state[demand[0]] >= demand[1]:
                            self.assertTrue(all(state[name] >= version for name, version in after))

    def test_new_lists(self):
        c = doc_catalog()
        following(c, ("core", 2)).clear()
        self.assertSame(following(c, ("core", 2)), [("store", 1), ("shell", 1)])


class Chains(StrictCase):
    def test_no_chains(self):
        c = doc_catalog()
        # One of these is a list of a demand.
        wrong = [value for value in no_demands() if repr(value) != "[('core', 0)]"]
        for value in [*wrong, [], (("store", 1),), (("store", 1), ("core", 1)), {("store", 1): ("core", 1)}]:
            with self.subTest(value=repr(value)):
                self.assertIs(is_chain(c, value), False)

    def test_wrong_items(self):
        c = doc_catalog()
        for value in no_demands():
            with self.subTest(value=repr(value)):
                self.assertIs(is_chain(c, [value]), False)
                self.assertIs(is_chain(c, [("store", 1), value]), False)
                self.assertIs(is_chain(c, [("store", 1), ("core", 1), value]), False)
                self.assertIs(is_chain(c, [value, ("core", 1)]), False)
        self.assertIs(is_chain(c, [("store", 1), ("core", True)]), False)
        self.assertIs(is_chain(c, [("store", 1), ["core", 1]]), False)

    def test_chains(self):
        c = doc_catalog()
        for value in [[("core", 0)], [("core", 9)], [("shell", 2), ("core", 2)], [("shell", 2), ("core", 2), ("store", 1)],
                      [("shell", 2), ("core", 2), ("shell", 1)], [("core", 2), ("store", 1), ("core", 1)]]:
            self.assertIs(is_chain(c, value), True)
        for value in [[("core", 0), ("core", 0)], [("core", 1), ("store", 1)], [("core", 2), ("store", 0)],
                      [("core", 2), ("store", 2)], [("core", 2), ("core", 2)], [("shell", 2), ("store", 1)],
                      [("shell", 2), ("core", 2), ("core", 1)], [("store", 1), ("core", 2)]]:
            self.assertIs(is_chain(c, value), False)

    def test_nothing_follows_from_a_demand_that_cannot_be_met(self):
        c = doc_catalog()
        c.withdraw("core", 2)
        self.assertIs(is_chain(c, [("shell", 2), ("core", 2)]), True)
        self.assertIs(is_chain(c, [("shell", 2), ("core", 2), ("store", 1)]), False)
        self.assertIs(is_chain(c, [("core", 3), ("store", 1)]), False)

    def test_against_small_catalogs(self):
        right = 0
        for c in random_catalogs(60, seed=23, most_modules=3):
            demands = demands_around(c)
            for first in demands:
                for second in demands:
                    expected = own_is_chain(c, [first, second])
                    right += expected
                    self.assertIs(is_chain(c, [first, second]), expected)
                    third = own_following(c, second)[:1] if own_settled(c, second) is not None else []
                    self.assertIs(is_chain(c, [first, second, *third]), expected)
        self.assertGreater(right, 100)

    def test_a_long_list(self):
        c = catalog_of([("a", ("b",), [[(0, 0)], [(1, 1)]]), ("b", ("a",), [[(0, 0)], [(1, 1)]])])
        chain = [("a", 1), ("b", 1)] * 400
        self.assertIs(is_chain(c, chain), True)
        self.assertIs(is_chain(c, [*chain[:-1], ("a", 1)]), False)
        self.assertEqual(len(chain), 800)


class Failing(StrictCase):
    def assertFailing(self, catalog, demand, chain):
        """A chain from the demand to one that cannot be met, and as short as possible; None if there is none."""
        many = fewest(catalog, [demand], failing(catalog))
        if many is None:
            self.assertIsNone(chain)
            return
        self.assertTrue(own_is_chain(catalog, chain))
        self.assertIs(is_chain(catalog, chain), True)
        self.assertSame([chain[0], settled(catalog, chain[-1]), len(chain)], [demand, None, many])

    def test_a_demand_that_cannot_be_met(self):
        c = doc_catalog()
        self.assertSame(failing_chain(c, ("core", 3)), [("core", 3)])
        self.assertSame(failing_chain(Catalog({"a": ()}), ("a", 0)), [("a", 0)])
        self.assertSame(failing_chain(c, ("core", 2)), None)

    def test_a_chain_from_version_zero(self):
        c = catalog_of([("a", ("b",), [[(2, 2)]]), ("b", (), [[], []])])
        self.assertSame(failing_chain(c, ("a", 0)), [("a", 0), ("b", 2)])
        self.assertSame(failing_chain(c, ("b", 0)), None)

    def test_the_longest_line(self):
        c = line_catalog(12, 16)
        self.assertSame(failing_chain(c, ("ma", 15)), None)
        c.withdraw("ml", 15)
        names = c.modules()
        self.assertSame(failing_chain(c, ("ma", 15)), [(name, 15) for name in names])
        self.assertSame(failing_chain(c, ("ma", 14)), None)
        self.assertSame(demanded(c, ("ma", 14)), {name: 14 for name in names})

    def test_the_shortest_one_is_taken(self):
        # A way of four demands begins with the first use, one of three with the second one.
        c = catalog_of([
            ("a", ("b", "e"), [[(0, None), (0, None)], [(1, None), (1, None)]]),
            ("b", ("d",), [[(0, None)], [(1, None)]]), ("d", ("f",), [[(0, None)], [(1, None)]]),
            ("e", ("f",), [[(0, None)], [(2, None)]]), ("f", (), [[]]),
        ])
        self.assertSame(failing_chain(c, ("a", 1)), [("a", 1), ("e", 1), ("f", 2)])

    def test_a_later_demand_of_the_same_module(self):
        # From (a, 1) follows (b, 1), and by way of b also (a, 2), from which (b, 2) follows, which cannot be met.
        c = catalog_of([("a", ("b",), [[(0, 0)], [(1, 1)], [(2, 2)]]), ("b", ("a",), [[(0, 0)], [(2, 2)]])])
        self.assertSame(failing_chain(c, ("a", 1)), [("a", 1), ("b", 1), ("a", 2), ("b", 2)])
        error = self.caught(demanded, c, ("a", 1))
        self.assertIs(error.__class__, Unreachable)
        self.assertSame(vars(error), {"chain": [("a", 1), ("b", 1), ("a", 2), ("b", 2)]})

    def test_against_small_catalogs(self):
        lengths = {}
        for c in [*random_catalogs(400, seed=24), *random_catalogs(60, seed=25, most_versions=7)]:
            for demand in demands_around(c):
                chain = failing_chain(c, demand)
                self.assertFailing(c, demand, chain)
                self.assertSame(failing_chain(c, demand), chain)
                many = 0 if chain is None else len(chain)
                lengths[many] = lengths.get(many, 0) + 1
        self.assertGreater(min(lengths.get(many, 0) for many in range(5)), 10)

    def test_chain_guarantee(self):
        """[6] CHAIN: met by a consistent state exactly if there is one at all and no chain fails."""
        for c in random_catalogs(300, seed=26):
            states = consistent_states(c)
            for name, version in demands_around(c):
                met = any(state[name] >= version for state in states)
                self.assertEqual(met, bool(states) and failing_chain(c, (name, version)) is None)


class Demanded(StrictCase):
    def test_modules_in_the_order_of_the_catalog(self):
        c = doc_catalog()
        self.assertSame(demanded(c, ("shell", 2)), {"core": 2, "store": 1, "shell": 2})
        self.assertSame(demanded(c, ("store", 1)), {"core": 1, "store": 1})
        self.assertSame([demanded(c, ("core", 0)), demanded(c, ("shell", 1))], [{"core": 0}, {"shell": 1}])

    def test_settled_versions(self):
        c = doc_catalog()
        c.withdraw("core", 1)
        c.withdraw("shell", 1)
        self.assertSame(demanded(c, ("store", 1)), {"core": 2, "store": 1, "shell": 2})

    def test_the_greatest_version_of_a_module_counts(self):
        c = catalog_of([
            ("a", ("b", "d"), [[(0, 9), (0, 9)], [(2, 9), (1, 9)]]), ("b", (), [[], [], []]),
            ("d", ("b",), [[(0, 9)], [(1, 9)]]),
        ])
        self.assertSame(demanded(c, ("a", 1)), {"a": 1, "b": 2, "d": 1})
        # The demand itself comes back with a later version.
        d = catalog_of([("a", ("b",), [[(0, 0)], [(1, 1)], [(1, 1)]]), ("b", ("a",), [[(0, 0)], [(2, 2)]])])
        self.assertSame(demanded(d, ("a", 1)), {"a": 2, "b": 1})

    def test_against_small_catalogs(self):
        sizes = {}
        for c in [*random_catalogs(400, seed=27), *random_catalogs(60, seed=28, most_versions=7)]:
            for demand in demands_around(c):
                found = distances(c, [demand])
                if any(own_settled(c, each) is None for each in found):
                    error = self.caught(demanded, c, demand)
                    self.assertIs(error.__class__, Unreachable)
                    self.assertSame(vars(error), {"chain": failing_chain(c, demand)})
                    continue
                expected = {name: max([own_settled(c, each) for each in found if each[0] == name], default=None)
                            for name in c.modules()}
                result = demanded(c, demand)
                self.assertSame(result, {name: expected[name] for name in expected if expected[name] is not None})
                sizes[len(result)] = sizes.get(len(result), 0) + 1
        self.assertGreater(min(sizes[many] for many in range(1, 5)), 10)

    def test_new_results(self):
        c = doc_catalog()
        demanded(c, ("shell", 2)).clear()
        self.assertSame(demanded(c, ("shell", 2)), {"core": 2, "store": 1, "shell": 2})
        c.withdraw("core", 2)
        failing_chain(c, ("shell", 2)).clear()
        self.caught(demanded, c, ("shell", 2)).chain.clear()
        self.assertSame(failing_chain(c, ("shell", 2)), [("shell", 2), ("core", 2)])


class Unchanged(StrictCase):
    def test_queries_change_no_catalog(self):
        for c in random_catalogs(60, seed=29):
            before, history = c.clone(), c.history()
            for demand in demands_around(c):
                for function in QUERIES:
                    try:
                        function(c, demand)
                    except (CannotMeet, Unreachable):
                        pass
                is_chain(c, [demand, demand])
            self.assertEqual(c, before)
            self.assertEqual(c.history(), history)


if __name__ == "__main__":
    unittest.main()
