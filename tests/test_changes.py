import unittest

from groupsteps.catalogs import Catalog, catalog_of
from groupsteps.changes import compare
from groupsteps.errors import InvalidChange, NoState
from groupsteps.steps import all_steps
from tests.brute import Brute
from tests.small import (Numbers, close_catalogs, consistent_states, doc_catalog, line_catalog, own_conflicts,
                         random_catalogs)
from tests.test_steps import StepCase, large_catalog, stuck_catalog


def publish_one(numbers, catalog, module):
    """Publishes a version with windows that rise, if there is room for one."""
    if not 0 < catalog.versions(module) < 16:
        return
    windows = []
    for used in catalog.uses(module):
        low, high = catalog.window(module, used, catalog.versions(module) - 1)
        low += numbers.below(2)
        windows.append((low, None if high is None else max(low, high + numbers.below(3))))
    catalog.publish(module, windows)


def changed(numbers, catalog, count, withdrawals_only=False):
    """A catalog that arises from this one by so many publications and withdrawals."""
    new = catalog.clone()
    for number in range(count):
        module = new.modules()[numbers.below(len(new))]
        available = new.available(module)
        if (withdrawals_only or numbers.below(2)) and available:
            new.withdraw(module, available[numbers.below(len(available))])
        elif not withdrawals_only:
            publish_one(numbers, new, module)
    return new


def is_state_of(catalog, state):
    return all(version in catalog.available(module) for module, version in state.items())


def expected(catalog, old, new):
    """What compare returns, by the words of the document; old and new are lists of all that there is."""
    kept = [step for step in new.steps if step in old.steps]
    others = [step for step in new.steps if step not in old.steps]
    glued = [(step, old.between(new.starts[step], new.ends[step])) for step in others
             if is_state_of(catalog, new.starts[step]) and is_state_of(catalog, new.ends[step])]
    added = [step for step in others if step not in [each for each, parts in glued]]
    lost = [step for step in old.steps if step not in kept and not any(step in parts for each, parts in glued)]
    return kept, glued, added, lost


class AgainstLists(StepCase):
    def test_publications_and_withdrawals(self):
        numbers, counts = Numbers(71), [0, 0, 0, 0]
        for catalog in random_catalogs(150, seed=72) + close_catalogs(250, seed=73):
            new = changed(numbers, catalog, 1 + numbers.below(5))
            if not consistent_states(catalog) or not consistent_states(new):
                continue
            result = compare(catalog, new)
            self.assertSame(result, expected(catalog, Brute(catalog), Brute(new)))
            for place in range(4):
                counts[place] += len(result[place])
        self.assertTrue(all(count > 20 for count in counts), counts)

    def test_withdrawals_only_glue_and_lose(self):
        numbers, several = Numbers(74), 0
        for catalog in random_catalogs(100, seed=75) + close_catalogs(200, seed=76):
            new = changed(numbers, catalog, 1 + numbers.below(2), withdrawals_only=True)
            if not consistent_states(new):
                continue
            kept, glued, added, lost = compare(catalog, new)
            self.assertSame(added, [])
            used = kept + [part for step, parts in glued for part in parts]
            self.assertEqual(len(used), len(set(used)))
            self.assertEqual(sorted(used + lost), sorted(all_steps(catalog)))
            self.assertTrue(all(parts for step, parts in glued))
            several += sum(len(parts) > 1 for step, parts in glued)
        self.assertGreater(several, 20)

    def test_publications_only_add(self):
        numbers, more = Numbers(77), 0
        for catalog in random_catalogs(60, seed=78) + close_catalogs(100, seed=79):
            if not consistent_states(catalog):
                continue
            new = catalog.clone()
            for number in range(3):
                publish_one(numbers, new, new.modules()[numbers.below(len(new))])
            kept, glued, added, lost = compare(catalog, new)
            self.assertSame((kept, glued, lost), (all_steps(catalog), [], []))
            self.assertEqual(sorted(kept + added), sorted(all_steps(new)))
            more += len(added)
        self.assertGreater(more, 40)

    def test_starts_and_ends_of_glued_steps_are_consistent_in_the_old_catalog(self):
        numbers, found = Numbers(80), 0
        for catalog in close_catalogs(500, seed=81):
            new = changed(numbers, catalog, 3)
            if not consistent_states(catalog) or not consistent_states(new):
                continue
            brute = Brute(new)
            for step, parts in compare(catalog, new)[1]:
                found += 1
                self.assertEqual(own_conflicts(catalog, brute.starts[step]), [])
                self.assertEqual(own_conflicts(catalog, brute.ends[step]), [])
        self.assertGreater(found, 20)

    def test_nothing_changed(self):
        for catalog in close_catalogs(40, seed=82):
            if consistent_states(catalog):
                self.assertSame(compare(catalog, catalog), (all_steps(catalog), [], [], []))
                self.assertSame(compare(catalog, catalog.clone()), (all_steps(catalog), [], [], []))

    def test_a_withdrawal_can_change_the_least_state(self):
        old = catalog_of([("core", (), [[], [], []])])
        new = old.clone()
        new.withdraw("core", 0)
        self.assertSame(compare(old, new), ([(("core", 1, 2),)], [], [], [(("core", 0, 1),)]))

    def test_an_added_step_can_start_in_an_old_state(self):
        old = catalog_of([("core", (), [[], []])])
        new = old.clone()
        new.publish("core", [])
        new.withdraw("core", 1)
        # Version 2 is not in the old catalog, so the step is no glued one.
        self.assertSame(compare(old, new), ([], [], [(("core", 0, 2),)], [(("core", 0, 1),)]))


class Errors(StepCase):
    def assertNoChange(self, old, new):
        error = self.caught(compare, old, new)
        self.assertIs(error.__class__, InvalidChange)

    def test_other_modules_and_uses(self):
        rows = [("core", ("store", "log"), [[(0, 0), (0, 0)]]), ("store", (), [[]]), ("log", (), [[]])]
        old = catalog_of(rows)
        for other in [[rows[0], rows[2], rows[1]], [("core", ("log", "store"), [[(0, 0), (0, 0)]]), *rows[1:]],
                      [("core", ("store",), [[(0, 0)]]), *rows[1:]], [*rows, ("shell", (), [[]])],
                      [("root", *rows[0][1:]), *rows[1:]]]:
            self.assertNoChange(old, catalog_of(other))
            self.assertNoChange(catalog_of(other), old)

    def test_a_version_is_missing(self):
        new = doc_catalog()
        for module, windows in [("core", [(1, None)]), ("store", [(1, 2)]), ("shell", [(2, None)])]:
            old = doc_catalog()
            old.publish(module, windows)
            self.assertNoChange(old, new)
            # The version is not less missing where it is withdrawn.
            old.withdraw(module, old.versions(module) - 1)
            self.assertNoChange(old, new)
            self.assertSame(compare(new, old)[3], [])

    def test_a_version_without_windows_is_missing(self):
        self.assertNoChange(catalog_of([("core", (), [[], []])]), catalog_of([("core", (), [[]])]))

    def test_another_window(self):
        def made(last):
            return catalog_of([("core", ("store", "log"), [[(0, 0), (0, 0)], last]), ("store", (), [[]]),
                               ("log", (), [[]])])
        self.assertSame(compare(made([(0, 1), (0, 1)]), made([(0, 1), (0, 1)]))[3], [])
        for last in [[(0, 1), (0, 2)], [(0, 2), (0, 1)], [(0, 1), (0, None)], [(0, 1), (1, 1)]]:
            self.assertNoChange(made([(0, 1), (0, 1)]), made(last))
            self.assertNoChange(made(last), made([(0, 1), (0, 1)]))

    def test_a_withdrawn_version_is_back(self):
        old, new = doc_catalog(), doc_catalog()
        old.withdraw("core", 1)
        self.assertNoChange(old, new)
        new.withdraw("core", 2)
        self.assertNoChange(old, new)
        new.withdraw("core", 1)
        self.assertEqual(compare(old, new)[0], [(("shell", 0, 1),)])

    def test_no_consistent_state(self):
        stuck = stuck_catalog()
        self.assertNoState(stuck, compare, stuck, stuck)
        # The old one comes first, although the new one has none either.
        old = Catalog({"core": (), "store": ()})
        old.publish("store", [])
        new = old.clone()
        new.publish("core", [])
        new.withdraw("store", 0)
        error = self.caught(compare, old, new)
        self.assertIs(error.__class__, NoState)
        self.assertSame(error.chain, [("core", 0)])
        with_state = old.clone()
        with_state.publish("core", [])
        self.assertSame(self.caught(compare, old, with_state).chain, [("core", 0)])
        new = with_state.clone()
        new.withdraw("store", 0)
        self.assertSame(self.caught(compare, with_state, new).chain, [("store", 0)])

    def test_no_change_comes_before_no_state(self):
        self.assertNoChange(stuck_catalog(), doc_catalog())
        self.assertNoChange(doc_catalog(), stuck_catalog())
        other = stuck_catalog()
        other.withdraw("store", 0)
        self.assertNoChange(other, stuck_catalog())


class Results(StepCase):
    def test_arguments_stay_and_results_are_new(self):
        old, new = doc_catalog(), doc_catalog()
        new.withdraw("core", 1)
        before = repr(compare(old=old, new=new))
        kept, glued, added, lost = compare(old, new)
        glued[0][1].clear()
        for each in [kept, glued, added, lost]:
            each.clear()
        self.assertEqual(repr(compare(old, new)), before)
        self.assertEqual(old, doc_catalog())

    def test_large_catalogs(self):
        old = large_catalog(2, 3)
        new = old.clone()
        for module in old.modules()[::3]:
            new.withdraw(module, 7)
            new.withdraw(module, 15)
        kept, glued, added, lost = compare(old, new)
        self.assertEqual(sorted(kept + [step for step, parts in glued] + added), sorted(all_steps(new)))
        self.assertTrue(kept and glued and lost)
        line = line_catalog(12, 16)
        shorter = line.clone()
        shorter.withdraw("mc", 4)
        self.assertSame([len(each) for each in compare(line, shorter)], [13, 1, 0, 0])


if __name__ == "__main__":
    unittest.main()
