"""Catalogs [8]: clones, equality, and catalogs made from rows."""

import unittest

from groupsteps.catalogs import Catalog, catalog_of
from groupsteps.errors import (
    InvalidName, InvalidRows, InvalidUses, InvalidWindows, NotRising, TooMany, UnknownModule)
from tests.small import Numbers, doc_catalog, random_catalogs
from tests.support import StrictCase, Touchy
from tests.test_catalogs import told, three

USES = {"core": ("store", "shell"), "store": (), "shell": ()}
PUBLICATIONS = [("core", [(0, 1), (0, 2)]), ("store", []), ("store", []), ("shell", []), ("core", [(1, 1), (0, None)])]


def made(publications, withdrawals=()):
    catalog = Catalog(USES)
    for module, windows in publications:
        catalog.publish(module, windows)
    for module, version in withdrawals:
        catalog.withdraw(module, version)
    return catalog


class Clones(StrictCase):
    def test_a_clone_tells_the_same(self):
        for c in [Catalog({"core": ()}), three(), doc_catalog(), *random_catalogs(200, seed=1)]:
            d = c.clone()
            self.assertIsInstance(d, Catalog)
            self.assertIsNot(d, c)
            self.assertIs(c == d, True)
            self.assertEqual(told(d), told(c))

    def test_a_clone_is_independent(self):
        c = three()
        before = told(c)
        d = c.clone()
        d.publish("shell", [])
        d.publish("core", [(0, 2), (1, None)])
        d.withdraw("store", 0)
        self.assertEqual(told(c), before)
        e = c.clone()
        c.publish("shell", [])
        c.withdraw("core", 0)
        self.assertEqual(told(e), before)
        self.assertSame([d.versions("core"), d.available("store"), len(d.history())], [3, [1], 9])

    def test_a_clone_of_a_clone_after_changes(self):
        c = three()
        c.withdraw("core", 0)
        d = c.clone()
        self.assertSame([d.available("core"), d.versions("core"), d.publish("shell", [])], [[1], 2, 2])
        self.assertSame(d.history(), [*c.history(), ("publish", "shell", ())])
        self.assertSame(d.clone().available("core"), [1])


class Equality(StrictCase):
    def assertDiffer(self, one, other):
        self.assertIs(one == other, False)
        self.assertIs(other == one, False)
        self.assertIs(one != other, True)

    def assertAlike(self, one, other):
        self.assertIs(one == other, True)
        self.assertIs(other == one, True)
        self.assertIs(one != other, False)

    def test_the_history_is_not_compared(self):
        one = made(PUBLICATIONS, [("store", 0), ("store", 1), ("core", 0)])
        other = made([PUBLICATIONS[place] for place in [3, 1, 0, 4, 2]], [("core", 0), ("store", 1), ("store", 0)])
        self.assertNotEqual(one.history(), other.history())
        self.assertAlike(one, other)

    def test_withdrawals_between_publications(self):
        one = made(PUBLICATIONS[:2], [("store", 0)])
        one.publish("store", [])
        self.assertAlike(one, made(PUBLICATIONS[:3], [("store", 0)]))
        self.assertDiffer(one, made(PUBLICATIONS[:3], [("store", 1)]))

    def test_modules_and_uses_are_compared_in_order(self):
        self.assertDiffer(Catalog({"a": (), "b": ()}), Catalog({"b": (), "a": ()}))
        self.assertDiffer(Catalog({"a": (), "b": ()}), Catalog({"a": ()}))
        self.assertDiffer(Catalog({"a": ()}), Catalog({"b": ()}))
        self.assertDiffer(Catalog({"a": ("b",), "b": ()}), Catalog({"a": (), "b": ()}))
        self.assertDiffer(Catalog({"a": ("b", "c"), "b": (), "c": ()}), Catalog({"a": ("c", "b"), "b": (), "c": ()}))
        self.assertAlike(Catalog({"a": ("b",), "b": ()}), Catalog({"a": ("b",), "b": ()}))

    def test_versions_windows_and_withdrawals_are_compared(self):
        one = made(PUBLICATIONS)
        self.assertAlike(one, made(PUBLICATIONS))
        self.assertDiffer(one, made(PUBLICATIONS[:-1]))
        self.assertDiffer(one, made([*PUBLICATIONS, ("shell", [])]))
        self.assertDiffer(one, made([*PUBLICATIONS[:-1], ("core", [(1, 1), (0, 3)])]))
        self.assertDiffer(one, made([*PUBLICATIONS[:-1], ("core", [(1, None), (0, None)])]))
        self.assertDiffer(one, made([*PUBLICATIONS[:-1], ("core", [(0, 1), (0, None)])]))
        self.assertDiffer(one, made(PUBLICATIONS, [("shell", 0)]))
        self.assertDiffer(made(PUBLICATIONS, [("core", 1)]), made(PUBLICATIONS, [("core", 0)]))

    def test_no_other_value_is_equal(self):
        c = Catalog({"core": ()})
        for value in [None, True, 1, "core", repr(c), ["core"], ("core",), {"core": ()}, c.modules(), Catalog, Touchy()]:
            with self.subTest(value=repr(value)):
                self.assertIs(c == value, False)
        self.assertIs(1 == c, False)
        self.assertIs(c in [1, "core", None], False)


class FromRows(StrictCase):
    def test_rows_are_published_in_order(self):
        c = catalog_of([("core", ("store",), [[(0, 0)], [(1, 2)]]), ("store", ("core",), [[(0, None)]]), ("shell", (), [])])
        self.assertSame([c.modules(), c.uses("store"), c.versions("shell")], [["core", "store", "shell"], ["core"], 0])
        self.assertSame(c.history(), [("publish", "core", ((0, 0),)), ("publish", "core", ((1, 2),)),
                                      ("publish", "store", ((0, None),))])
        self.assertEqual(catalog_of(rows=[("a", (), [])]), Catalog({"a": ()}))

    def test_against_publish(self):
        for c in random_catalogs(200, seed=2):
            names = c.modules()
            rows = [(name, tuple(c.uses(name)), [[c.window(name, used, number) for used in c.uses(name)]
                                                 for number in range(c.versions(name))]) for name in names]
            d = Catalog({name: tuple(c.uses(name)) for name in names})
            for name, uses, versions in rows:
                for windows in versions:
                    d.publish(name, windows)
            e = catalog_of(rows)
            self.assertEqual(told(e), told(d))
            self.assertEqual(e, d)

    def test_no_list(self):
        for value in [None, True, 0, "core", b"", (), (("core", (), []),), {}, {"core": ((), [])}, {("core", ())}, Touchy()]:
            with self.subTest(value=repr(value)):
                self.assertFails(InvalidRows, {"position": None}, catalog_of, value)

    def test_wrong_rows(self):
        row = ("core", (), [])
        wrong = [
            None, True, 0, "abc", [], ["store", (), []], (), ("store",), ("store", ()), ("store", (), [], []), {}, Touchy(),
            (None, (), []), (1, (), []), (True, (), []), (b"store", (), []), (["store"], (), []), (("store",), (), []),
            (Touchy(), (), []), ("store", (), ()), ("store", (), None), ("store", (), {}), ("store", (), 0), ("store", (), ""),
            ("store", [], Touchy()), ("core", (), []), ("core", None, [None]),
        ]
        for value in wrong:
            with self.subTest(value=repr(value)):
                self.assertFails(InvalidRows, {"position": 1}, catalog_of, [row, value])
                self.assertFails(InvalidRows, {"position": 2}, catalog_of, [row, ("log", (), []), value, None])

    def test_a_wrong_first_row(self):
        for value in [None, ["core", (), []], ("core", (), ()), (1, (), [])]:
            self.assertFails(InvalidRows, {"position": 0}, catalog_of, [value, None])

    def test_rows_are_checked_before_what_they_hold(self):
        self.assertFails(InvalidRows, {"position": 1}, catalog_of, [("Core", None, [None]), ("store", (), ())])
        self.assertFails(InvalidRows, {"position": 13}, catalog_of, [*[("a" * many, (), []) for many in range(13)], None])
        # Two strings that are no names, but the same.
        self.assertFails(InvalidRows, {"position": 1}, catalog_of, [("Core", (), []), ("Core", (), [])])

    def test_the_errors_of_catalogs(self):
        self.assertFails(InvalidUses, {"module": None}, catalog_of, [])
        self.assertFails(InvalidName, {"value": "Core"}, catalog_of, [("Core", None, [None])])
        self.assertFails(InvalidName, {"value": ""}, catalog_of, [("core", (), [None]), ("", (), [])])
        for uses in [None, ["store"], "store", ("core",), ("store", "store"), (1,)]:
            self.assertFails(InvalidUses, {"module": "core"}, catalog_of, [("store", (), []), ("core", uses, [None])])
        self.assertFails(UnknownModule, {"value": "ghost"}, catalog_of, [("core", ("ghost",), [None])])
        rows = [("m" + letter, (), [None]) for letter in "abcdefghijklm"]
        self.assertFails(TooMany, {"kind": "modules", "limit": 12}, catalog_of, rows)

    def test_the_errors_of_publish(self):
        self.assertFails(InvalidWindows, {"position": None}, catalog_of, [("core", (), [None]), ("store", (), [[None]])])
        self.assertFails(InvalidWindows, {"position": None}, catalog_of, [("core", (), [[], ()])])
        self.assertFails(InvalidWindows, {"position": None}, catalog_of, [("core", (), [[(0, 1)]])])
        self.assertFails(InvalidWindows, {"position": 0}, catalog_of, [("core", ("store",), [[[0, 1]]]), ("store", (), [])])
        rows = [("core", ("store",), [[(1, 1)], [(0, 2)]]), ("store", (), [None])]
        self.assertFails(NotRising, {"user": "core", "used": "store"}, catalog_of, rows)
        self.assertFails(TooMany, {"kind": "versions", "limit": 16}, catalog_of, [("core", (), [[]] * 17), ("a", (), [None])])
        self.assertSame(catalog_of([("core", (), [[]] * 16)]).versions("core"), 16)

    def test_the_rows_are_copied_and_not_changed(self):
        windows = [(0, 1)]
        rows = [("core", ("store",), [windows]), ("store", (), [[]])]
        c = catalog_of(rows)
        self.assertSame(rows, [("core", ("store",), [[(0, 1)]]), ("store", (), [[]])])
        before = told(c)
        windows[0] = (4, 5)
        rows[0][2].append([(6, 7)])
        rows.clear()
        self.assertEqual(told(c), before)


class ManyCalls(StrictCase):
    def test_a_long_history(self):
        """Random calls, the wrong ones included, against plain lists of what should be there."""
        numbers = Numbers(3)
        c = Catalog({"core": ("store",), "store": ("core",)})
        rows, gone, history = {"core": [], "store": []}, [], []
        for call in range(300):
            name, version = ["core", "store"][numbers.below(2)], numbers.below(17)
            low, size = numbers.below(3) + len(rows[name]) // 2, numbers.below(4)
            window = (low, None if numbers.below(40) == 0 else low + size)
            try:
                if numbers.below(3) == 0:
                    c.withdraw(name, version)
                    self.assertTrue(version < len(rows[name]) and (name, version) not in gone)
                    gone.append((name, version))
                    history.append(("withdraw", name, version))
                else:
                    self.assertEqual(c.publish(name, [window]), len(rows[name]))
                    rows[name].append(window)
                    history.append(("publish", name, (window,)))
            except (LookupError, RuntimeError, ArithmeticError):
                pass
            self.assertEqual(c.history(), history)
        self.assertGreater(len(gone), 5)
        for name, other in [("core", "store"), ("store", "core")]:
            self.assertGreater(len(rows[name]), 5)
            self.assertEqual([c.window(name, other, number) for number in range(c.versions(name))], rows[name])
            self.assertEqual(c.available(name), [k for k in range(len(rows[name])) if (name, k) not in gone])


if __name__ == "__main__":
    unittest.main()
