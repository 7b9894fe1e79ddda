"""States [9], [10]: what they are, their conflicts, and the lower and the upper state of two of them."""

import unittest
from collections import OrderedDict, defaultdict

from groupsteps.catalogs import Catalog, catalog_of
from groupsteps.errors import InvalidState, NotConsistent
from groupsteps.states import conflicts, first_conflict, is_below, is_state, lower_state, upper_state
from tests.small import all_states, below, consistent_states, doc_catalog, own_conflicts, random_catalogs
from tests.support import StrictCase, Touchy, wrong_kinds

LOW = {"core": 0, "store": 0, "shell": 0}


def without_core_one():
    catalog = doc_catalog()
    catalog.withdraw("core", 1)
    return catalog


# Values that are no states of this catalog, each with the module that the error has.
def wrong_states():
    found = [(kind, None) for kind in wrong_kinds() if not isinstance(kind, dict)]
    found += [(value, None) for value in ["core", 0, [("core", 0), ("store", 0), ("shell", 0)], ["core", "store", "shell"]]]
    found += [({}, "core"), ({"store": 0, "shell": 0}, "core"), ({"core": 0, "shell": 0}, "store")]
    found += [({"core": 0, "store": 0}, "shell"), ({"core": 0}, "store"), ({"shell": 9}, "core")]
    for version in [1, 3, 16, -1, True, False, None, "0", b"0", [0], (0,), {}, Touchy(), object()]:
        found += [({"core": version, "store": 0, "shell": 0}, "core"), ({"core": version}, "core")]
    for version in [2, -1, True, False, None, "0", [], Touchy()]:
        found += [({"core": 0, "store": version, "shell": None}, "store"), ({**LOW, "store": version}, "store")]
    for version in [3, True, False, None, Touchy()]:
        found += [({**LOW, "shell": version}, "shell"), ({"shell": version, "store": 0, "core": 2}, "shell")]
    found += [({**LOW, "log": 0}, None), ({**LOW, 0: 0}, None), ({**LOW, None: 0}, None), ({**LOW, ("core",): 0}, None)]
    found += [({"log": 0, "core": 0, "store": 0}, "shell"), ({0: 0, 1: 0, 2: 0}, "core")]
    return found


class IsState(StrictCase):
    def test_states(self):
        c = doc_catalog()
        for state in all_states(c):
            self.assertIs(is_state(c, state), True)
            self.assertIs(is_state(c, dict(reversed(list(state.items())))), True)
        self.assertEqual(len(all_states(c)), 18)
        self.assertIs(is_state(catalog=c, value=LOW), True)

    def test_no_states(self):
        for value, module in wrong_states():
            with self.subTest(value=repr(value)):
                self.assertIs(is_state(without_core_one(), value), False)

    def test_withdrawn_and_published_versions(self):
        c = doc_catalog()
        state = {"core": 1, "store": 0, "shell": 0}
        self.assertIs(is_state(c, state), True)
        c.withdraw("core", 1)
        self.assertIs(is_state(c, state), False)
        later = {"core": 0, "store": 0, "shell": 3}
        self.assertIs(is_state(c, later), False)
        c.publish("shell", [(2, None)])
        self.assertIs(is_state(c, later), True)

    def test_a_module_without_versions(self):
        c = Catalog({"core": (), "store": ()})
        c.publish("core", [])
        self.assertIs(is_state(c, {"core": 0, "store": 0}), False)
        self.assertFails(InvalidState, {"module": "store"}, conflicts, c, {"core": 0, "store": 0})

    def test_other_dicts_are_dicts_and_are_not_filled(self):
        c = doc_catalog()
        self.assertIs(is_state(c, OrderedDict(LOW)), True)
        filling = defaultdict(int)
        self.assertIs(is_state(c, filling), False)
        self.assertFails(InvalidState, {"module": "core"}, conflicts, c, filling)
        self.assertEqual(len(filling), 0)


class Conflicts(StrictCase):
    def test_invalid_states(self):
        for value, module in wrong_states():
            with self.subTest(value=repr(value)):
                self.assertFails(InvalidState, {"module": module}, conflicts, without_core_one(), value)
                self.assertFails(InvalidState, {"module": module}, first_conflict, without_core_one(), value)

    def test_users_in_order_then_used_modules_in_order(self):
        c = catalog_of([("b", ("c", "a"), [[(1, 1), (1, 1)]]), ("a", ("b", "c"), [[(1, 1), (1, 1)]]),
                        ("c", ("a", "b"), [[(0, 0), (1, 1)]])])
        state = {"a": 0, "c": 0, "b": 0}
        self.assertSame(conflicts(c, state), [("b", "c"), ("b", "a"), ("a", "b"), ("a", "c"), ("c", "b")])
        self.assertSame(first_conflict(c, state), ("b", "c"))

    def test_against_all_small_catalogs(self):
        for c in random_catalogs(150, seed=10):
            for state in all_states(c):
                expected = own_conflicts(c, state)
                self.assertSame(conflicts(c, state), expected)
                self.assertSame(first_conflict(c, state), expected[0] if expected else None)

    def test_new_lists_and_unchanged_states(self):
        c = doc_catalog()
        state = {"shell": 0, "store": 0, "core": 2}
        found = conflicts(c, state)
        found.clear()
        self.assertSame(conflicts(c, state), [("core", "store"), ("store", "core"), ("shell", "core")])
        self.assertSame(state, {"shell": 0, "store": 0, "core": 2})

    def test_passed_by_name(self):
        c = doc_catalog()
        self.assertSame([conflicts(catalog=c, state=LOW), first_conflict(catalog=c, state=LOW)], [[], None])

    def test_the_present_catalog_decides(self):
        c = Catalog({"core": ("store",), "store": ()})
        c.publish("core", [(1, 1)])
        c.publish("store", [])
        self.assertSame(conflicts(c, {"core": 0, "store": 0}), [("core", "store")])
        c.publish("store", [])
        self.assertSame(conflicts(c, {"core": 0, "store": 1}), [])


class Below(StrictCase):
    def test_against_all_pairs(self):
        for c in [doc_catalog(), *random_catalogs(40, seed=11, most_modules=3, most_versions=3)]:
            states = all_states(c)
            for one in states:
                for other in states:
                    expected = all(one[name] <= other[name] for name in c.modules())
                    self.assertIs(is_below(c, one, other), expected)

    def test_the_sequence_of_the_keys_does_not_matter(self):
        c = doc_catalog()
        self.assertIs(is_below(c, {"shell": 1, "core": 0, "store": 0}, {"store": 0, "shell": 1, "core": 2}), True)
        self.assertIs(is_below(catalog=c, one={"shell": 2, "core": 0, "store": 0}, other=LOW), False)

    def test_inconsistent_states_are_compared_too(self):
        c = doc_catalog()
        self.assertIs(is_below(c, LOW, {"core": 2, "store": 0, "shell": 0}), True)

    def test_invalid_states(self):
        c = without_core_one()
        for value, module in wrong_states():
            with self.subTest(value=repr(value)):
                self.assertFails(InvalidState, {"module": module}, is_below, c, value, LOW)
                self.assertFails(InvalidState, {"module": module}, is_below, c, LOW, value)
                self.assertFails(InvalidState, {"module": module}, is_below, c, value, {"core": 0, "store": 0})
                self.assertFails(InvalidState, {"module": "shell"}, is_below, c, {"core": 0, "store": 0}, value)


class LowerAndUpper(StrictCase):
    def test_closed(self):
        """[6] CLOSED: both are consistent, the lower one is the greatest one below both, and the other way round."""
        pairs = 0
        for c in [doc_catalog(), *random_catalogs(150, seed=12), *random_catalogs(50, seed=14, most_versions=5)]:
            states = consistent_states(c)
            for one in states:
                for other in states:
                    lower, upper = lower_state(c, one, other), upper_state(c, one, other)
                    pairs += lower not in (one, other)
                    self.assertSame([list(lower), list(upper)], [c.modules(), c.modules()])
                    self.assertIn(lower, states)
                    self.assertIn(upper, states)
                    self.assertTrue(below(lower, one) and below(lower, other) and below(one, upper) and below(other, upper))
                    for third in states:
                        self.assertEqual(below(third, lower), below(third, one) and below(third, other))
                        self.assertEqual(below(upper, third), below(one, third) and below(other, third))
        self.assertGreater(pairs, 200)

    def test_modules_in_the_order_of_the_catalog(self):
        c = doc_catalog()
        one, other = {"shell": 0, "store": 1, "core": 1}, {"store": 0, "core": 1, "shell": 1}
        self.assertSame(lower_state(c, one, other), {"core": 1, "store": 0, "shell": 0})
        self.assertSame(upper_state(c, one, other), {"core": 1, "store": 1, "shell": 1})
        self.assertSame(upper_state(catalog=c, one=one, other=other), {"core": 1, "store": 1, "shell": 1})
        self.assertSame(lower_state(catalog=c, one=one, other=other), {"core": 1, "store": 0, "shell": 0})
        self.assertSame([one, other], [{"shell": 0, "store": 1, "core": 1}, {"store": 0, "core": 1, "shell": 1}])

    def test_the_result_is_new(self):
        c = doc_catalog()
        state = dict(LOW)
        for function in [lower_state, upper_state]:
            result = function(c, state, state)
            result["core"] = 7
            self.assertSame([state, function(c, state, state)], [LOW, LOW])

    def test_invalid_states_come_first(self):
        c = without_core_one()
        clash = {"core": 0, "store": 1, "shell": 0}
        for function in [lower_state, upper_state]:
            for value, module in wrong_states():
                with self.subTest(function.__name__, value=repr(value)):
                    self.assertFails(InvalidState, {"module": module}, function, c, value, LOW)
                    self.assertFails(InvalidState, {"module": module}, function, c, LOW, value)
                    self.assertFails(InvalidState, {"module": module}, function, c, clash, value)
                    self.assertFails(InvalidState, {"module": module}, function, c, value, {"core": 0})

    def test_not_consistent(self):
        c = doc_catalog()
        first, second = {"core": 0, "store": 1, "shell": 0}, {"core": 1, "store": 0, "shell": 2}
        for function in [lower_state, upper_state]:
            self.assertFails(NotConsistent, {"user": "core", "used": "store"}, function, c, first, LOW)
            self.assertFails(NotConsistent, {"user": "core", "used": "store"}, function, c, first, second)
            self.assertFails(NotConsistent, {"user": "shell", "used": "core"}, function, c, second, first)
            self.assertFails(NotConsistent, {"user": "shell", "used": "core"}, function, c, LOW, second)

    def test_not_consistent_against_all_pairs(self):
        for c in random_catalogs(40, seed=13, most_modules=3, most_versions=3):
            states = all_states(c)
            for one in states:
                for other in states:
                    wrong = own_conflicts(c, one) + own_conflicts(c, other)
                    if wrong:
                        for function in [lower_state, upper_state]:
                            error = self.caught(function, c, one, other)
                            self.assertIs(error.__class__, NotConsistent)
                            self.assertSame(vars(error), {"user": wrong[0][0], "used": wrong[0][1]})


if __name__ == "__main__":
    unittest.main()
