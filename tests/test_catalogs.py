"""Catalogs [8]: how they are made, publications, withdrawals, and what they tell of themselves."""

import unittest
from copy import deepcopy

from groupsteps.catalogs import MOST_MODULES, MOST_USES, MOST_VERSIONS, Catalog
from groupsteps.errors import (
    InvalidName, InvalidUses, InvalidWindows, NotRising, TooMany, UnknownModule, UnknownUse, UnknownVersion)
from tests.support import StrictCase, Touchy, wrong_kinds

NAMES = ["m" + letter for letter in "abcdefghijklmn"]
SIXTY = int("9" * 60)
NO_MODULES = [None, True, 0, "", "Core", "cor", "core ", "cores", b"core", ["core"], ("core",), {"core": 1}, {"core"},
              Touchy(), object()]
NO_VERSIONS = [None, True, False, -1, 2, 3, 16, SIXTY, "0", b"0", [0], (0,), (), {}, {0: 0}, Touchy(), object()]


def uses_of(many):
    """Twelve modules with so many uses, as evenly as possible."""
    names = NAMES[:12]
    counts = [many // 12 + (place < many - many // 12 * 12) for place in range(12)]
    return {name: tuple(names[(place + way) - 12] for way in range(1, counts[place] + 1))
            for place, name in enumerate(names)}


def three():
    """Versions 0 and 1 of each module; the modules are used in a sequence of their own."""
    catalog = Catalog({"core": ("shell", "store"), "store": ("core",), "shell": ()})
    catalog.publish("core", [(0, 1), (1, 2)])
    catalog.publish("core", [(0, 2), (1, None)])
    catalog.publish("store", [(0, 0)])
    catalog.publish("store", [(1, 3)])
    catalog.publish("shell", [])
    catalog.publish("shell", [])
    return catalog


def told(catalog):
    """All that a catalog tells of itself, in lists that nothing else holds."""
    names = catalog.modules()
    return deepcopy([
        names, len(catalog), repr(catalog), catalog.history(),
        [(catalog.uses(name), catalog.users(name), catalog.versions(name), catalog.available(name)) for name in names],
        [catalog.window(name, used, version) for name in names for used in catalog.uses(name)
         for version in range(catalog.versions(name))],
    ])


class CatalogCase(StrictCase):
    def assertRefused(self, error_class, attributes, catalog, method, *args):
        """The method raises this error, and the catalog is as it was."""
        before = told(catalog)
        self.assertFails(error_class, attributes, getattr(catalog, method), *args)
        self.assertEqual(told(catalog), before)


class Made(CatalogCase):
    def test_limits(self):
        self.assertSame([MOST_MODULES, MOST_VERSIONS, MOST_USES], [12, 16, 40])

    def test_modules_in_order(self):
        c = Catalog({"store": (), "core": ("store", "shell"), "abcdefgh": ("core", "store"), "shell": ("abcdefgh",)})
        self.assertSame(c.modules(), ["store", "core", "abcdefgh", "shell"])
        self.assertSame([c.uses(name) for name in c.modules()], [[], ["store", "shell"], ["core", "store"], ["abcdefgh"]])
        self.assertSame([c.users(name) for name in c.modules()], [["core", "abcdefgh"], ["abcdefgh"], ["shell"], ["core"]])
        self.assertSame([c.versions(name) for name in c.modules()], [0, 0, 0, 0])
        self.assertSame([c.available(name) for name in c.modules()], [[], [], [], []])
        self.assertSame([c.history(), len(c)], [[], 4])

    def test_users_are_in_the_sequence_of_the_catalog(self):
        c = Catalog({"b": ("z",), "z": ("a", "b"), "a": ("z",)})
        self.assertSame([c.users("z"), c.users("a"), c.users("b")], [["b", "a"], ["z"], ["z"]])

    def test_passed_by_name(self):
        self.assertSame(Catalog(uses={"core": ()}).modules(), ["core"])

    def test_no_dict_and_no_entry(self):
        for value in [*[kind for kind in wrong_kinds() if not isinstance(kind, dict)], {}, "core", [("core", ())], 12]:
            with self.subTest(value=repr(value)):
                self.assertFails(InvalidUses, {"module": None}, Catalog, value)

    def test_most_modules(self):
        self.assertSame(Catalog({name: () for name in NAMES[:12]}).modules(), NAMES[:12])
        for many in [13, 14]:
            self.assertFails(TooMany, {"kind": "modules", "limit": 12}, Catalog, {name: () for name in NAMES[:many]})

    def test_too_many_modules_come_before_wrong_entries(self):
        self.assertFails(TooMany, {"kind": "modules", "limit": 12}, Catalog, {place: None for place in range(13)})

    def test_keys_that_are_no_names(self):
        for key in ["", "Core", "abcdefghi", "a1", "a b", "a_b", 0, 1, -1, None, True, b"core", ("core",), (), frozenset()]:
            with self.subTest(key=repr(key)):
                self.assertFails(InvalidName, {"value": key}, Catalog, {key: ()})
                self.assertFails(InvalidName, {"value": key}, Catalog, {"core": (), key: ()})

    def test_wrong_used_modules(self):
        wrong = [
            ["store"], [], "store", "", None, 0, {"store": 1}, {"store"}, True, Touchy(),
            ("Store",), ("",), (1,), (None,), (True,), (b"store",), (("store",),), (["store"],), ({},), (Touchy(),),
            ("store", 1), ("store", "Store"), ("store", "shell", ["store"]),
            ("store", "store"), ("store", "shell", "store"), ("core",), ("store", "core"), ("core", "core"),
        ]
        for value in wrong:
            with self.subTest(value=repr(value)):
                self.assertFails(InvalidUses, {"module": "core"}, Catalog, {"core": value, "store": (), "shell": ()})
                self.assertFails(InvalidUses, {"module": "core"}, Catalog, {"store": (), "core": value, "shell": ()})

    def test_entries_are_checked_one_after_another(self):
        self.assertFails(InvalidName, {"value": "Core"}, Catalog, {"Core": None, "store": None})
        self.assertFails(InvalidUses, {"module": "core"}, Catalog, {"core": ["x"], "Store": ()})
        self.assertFails(InvalidName, {"value": "Store"}, Catalog, {"core": (), "Store": (), "shell": None})
        self.assertFails(InvalidUses, {"module": "b"}, Catalog, {"a": (), "b": ("b",), "c": ("c",)})

    def test_unknown_used_modules(self):
        self.assertFails(UnknownModule, {"value": "ghost"}, Catalog, {"core": ("ghost",)})
        self.assertFails(UnknownModule, {"value": "ghost"}, Catalog, {"core": ("store", "ghost", "spook"), "store": ("x",)})
        self.assertFails(UnknownModule, {"value": "spook"}, Catalog, {"core": ("store",), "store": ("core", "spook")})

    def test_unknown_modules_come_after_all_entries(self):
        self.assertFails(InvalidName, {"value": "Store"}, Catalog, {"core": ("ghost",), "Store": ()})
        self.assertFails(InvalidUses, {"module": "store"}, Catalog, {"core": ("ghost",), "store": ("store",)})

    def test_most_uses(self):
        for many in [0, 39, 40]:
            uses = uses_of(many)
            self.assertEqual(sum(len(names) for names in uses.values()), many)
            c = Catalog(uses)
            self.assertEqual([c.uses(name) for name in c.modules()], [list(names) for names in uses.values()])
        for many in [41, 42, 132]:
            self.assertFails(TooMany, {"kind": "uses", "limit": 40}, Catalog, uses_of(many))

    def test_unknown_modules_come_before_too_many_uses(self):
        uses = uses_of(132)
        uses[NAMES[11]] = (*uses[NAMES[11]], "ghost")
        self.assertFails(UnknownModule, {"value": "ghost"}, Catalog, uses)

    def test_the_dict_is_copied_and_not_changed(self):
        uses = {"core": ("store",), "store": ()}
        c = Catalog(uses)
        self.assertSame(uses, {"core": ("store",), "store": ()})
        uses["core"] = ()
        uses["shell"] = ()
        del uses["store"]
        self.assertSame([c.modules(), c.uses("core"), c.users("store"), len(c)], [["core", "store"], ["store"], ["core"], 2])

    def test_catalogs_are_independent(self):
        uses = {"core": ()}
        one, other = Catalog(uses), Catalog(uses)
        one.publish("core", [])
        self.assertSame([one.versions("core"), other.versions("core"), other.history()], [1, 0, []])


class Queries(CatalogCase):
    def test_unknown_modules(self):
        c = three()
        for value in NO_MODULES:
            for method in ["uses", "users", "versions", "available"]:
                with self.subTest(method, value=repr(value)):
                    self.assertRefused(UnknownModule, {"value": value}, c, method, value)

    def test_returned_lists_are_new(self):
        c = three()
        before = told(c)
        for result in [c.modules(), c.uses("core"), c.users("core"), c.available("core"), c.history()]:
            result.append("x")
            result[0] = "y"
            result.reverse()
        self.assertEqual(told(c), before)

    def test_passed_by_name(self):
        c = three()
        self.assertSame([c.uses(module="core"), c.users(module="core"), c.versions(module="core")],
                        [["shell", "store"], ["store"], 2])
        self.assertSame([c.available(module="core"), c.is_available(module="core", version=1)], [[0, 1], True])
        self.assertSame(c.window(user="core", used="store", version=1), (1, None))
        self.assertSame(c.publish(module="shell", windows=[]), 2)
        self.assertSame(c.withdraw(module="shell", version=2), None)
        self.assertSame(c.available("shell"), [0, 1])

    def test_repr_and_len(self):
        c = three()
        self.assertEqual(repr(c), "Catalog(modules=['core', 'store', 'shell'], versions=[2, 2, 2])")
        c.publish("shell", [])
        c.withdraw("core", 0)
        self.assertEqual(repr(c), "Catalog(modules=['core', 'store', 'shell'], versions=[2, 2, 3])")
        self.assertSame(len(c), 3)
        self.assertEqual(repr(Catalog({"a": ()})), "Catalog(modules=['a'], versions=[0])")


class Windows(CatalogCase):
    def test_windows_in_the_sequence_of_the_used_modules(self):
        c = three()
        self.assertSame([c.window("core", "shell", 0), c.window("core", "store", 0)], [(0, 1), (1, 2)])
        self.assertSame([c.window("core", "shell", 1), c.window("core", "store", 1)], [(0, 2), (1, None)])
        self.assertSame([c.window("store", "core", 0), c.window("store", "core", 1)], [(0, 0), (1, 3)])

    def test_withdrawn_versions_keep_their_windows(self):
        c = three()
        c.withdraw("core", 0)
        self.assertSame([c.window("core", "shell", 0), c.window("core", "store", 1)], [(0, 1), (1, None)])

    def test_unknown_users(self):
        c = three()
        for value in NO_MODULES:
            with self.subTest(value=repr(value)):
                self.assertRefused(UnknownModule, {"value": value}, c, "window", value, "store", 0)
                self.assertRefused(UnknownModule, {"value": value}, c, "window", value, None, None)

    def test_unknown_uses(self):
        c = three()
        for value in [*NO_MODULES, "core", "ghost"]:
            with self.subTest(value=repr(value)):
                self.assertRefused(UnknownUse, {"user": "core", "used": value}, c, "window", "core", value, 0)
                self.assertRefused(UnknownUse, {"user": "core", "used": value}, c, "window", "core", value, None)
        # Known modules, but not used by these.
        self.assertRefused(UnknownUse, {"user": "store", "used": "shell"}, c, "window", "store", "shell", 0)
        self.assertRefused(UnknownUse, {"user": "shell", "used": "core"}, c, "window", "shell", "core", 0)

    def test_unknown_versions(self):
        c = three()
        for value in NO_VERSIONS:
            with self.subTest(value=repr(value)):
                self.assertRefused(UnknownVersion, {"module": "core", "version": value}, c, "window", "core", "store", value)
        empty = Catalog({"core": ("store",), "store": ()})
        self.assertRefused(UnknownVersion, {"module": "core", "version": 0}, empty, "window", "core", "store", 0)


class Publications(CatalogCase):
    def test_numbers_and_history(self):
        c = Catalog({"core": ("store",), "store": ()})
        self.assertSame([c.publish("core", [(0, 1)]), c.publish("store", []), c.publish("core", [(0, 1)])], [0, 0, 1])
        self.assertSame(c.publish("core", [(2, None)]), 2)
        self.assertSame([c.versions("core"), c.versions("store")], [3, 1])
        self.assertSame([c.available("core"), c.available("store")], [[0, 1, 2], [0]])
        self.assertSame(c.history(), [("publish", "core", ((0, 1),)), ("publish", "store", ()),
                                      ("publish", "core", ((0, 1),)), ("publish", "core", ((2, None),))])

    def test_unknown_modules(self):
        for value in NO_MODULES:
            with self.subTest(value=repr(value)):
                self.assertRefused(UnknownModule, {"value": value}, three(), "publish", value, None)

    def test_no_list_and_wrong_lengths(self):
        c = three()
        wrong = [None, True, 0, "", "ab", b"ab", (), ((0, 2), (1, None)), {}, {0: (0, 2), 1: (1, None)}, Touchy(),
                 [], [(0, 2)], [(0, 2), (1, None), (1, None)], [None], [None, None, None]]
        for value in wrong:
            with self.subTest(value=repr(value)):
                self.assertRefused(InvalidWindows, {"position": None}, c, "publish", "core", value)
        self.assertRefused(InvalidWindows, {"position": None}, c, "publish", "shell", [(0, 1)])
        self.assertRefused(InvalidWindows, {"position": None}, c, "publish", "shell", ())

    def test_items_that_are_no_windows(self):
        c = three()
        for item in [None, True, 0, "0..1", (), (0,), [0, 1], (1, 0), (0, -1), (True, 2), (0, True), (0, 1, 2), Touchy()]:
            with self.subTest(item=repr(item)):
                self.assertRefused(InvalidWindows, {"position": 0}, c, "publish", "core", [item, (1, None)])
                self.assertRefused(InvalidWindows, {"position": 1}, c, "publish", "core", [(0, 2), item])
                self.assertRefused(InvalidWindows, {"position": 0}, c, "publish", "core", [item, None])
                # A wrong item is reported before an earlier window that falls.
                self.assertRefused(InvalidWindows, {"position": 1}, c, "publish", "core", [(0, 0), item])

    def test_the_first_version_may_have_any_windows(self):
        c = Catalog({"core": ("store", "shell"), "store": (), "shell": ()})
        self.assertSame(c.publish("core", [(SIXTY, SIXTY), (7, None)]), 0)
        self.assertSame([c.window("core", "store", 0), c.window("core", "shell", 0)], [(SIXTY, SIXTY), (7, None)])

    def test_falling_windows(self):
        c = Catalog({"core": ("store", "shell", "log"), "store": (), "shell": (), "log": ()})
        c.publish("core", [(1, 3), (1, 3), (1, None)])
        good, later = [(1, 3), (2, 9), (3, None)], [(2, None), (1, 3), (1, None)]
        for falling in [(0, 3), (0, 9), (1, 2), (0, None), (2, 2)]:
            with self.subTest(falling):
                self.assertRefused(NotRising, {"user": "core", "used": "store"}, c, "publish", "core", [falling, *good[1:]])
                self.assertRefused(NotRising, {"user": "core", "used": "shell"}, c, "publish", "core",
                                   [good[0], falling, good[2]])
                self.assertRefused(NotRising, {"user": "core", "used": "store"}, c, "publish", "core", [falling] * 3)
                self.assertRefused(NotRising, {"user": "core", "used": "shell"}, c, "publish", "core", [good[0], falling, falling])
        for falling in [(0, None), (1, SIXTY), (5, 9)]:
            with self.subTest(falling):
                self.assertRefused(NotRising, {"user": "core", "used": "log"}, c, "publish", "core", [*good[:2], falling])
        self.assertSame([c.publish("core", good), c.versions("core")], [1, 2])
        # Only the version before counts.
        self.assertRefused(NotRising, {"user": "core", "used": "shell"}, c, "publish", "core", later)
        self.assertSame(c.publish("core", [(3, None), (2, 9), (4, None)]), 2)

    def test_withdrawn_versions_count(self):
        c = three()
        c.withdraw("store", 1)
        self.assertRefused(NotRising, {"user": "store", "used": "core"}, c, "publish", "store", [(0, 3)])
        self.assertSame([c.publish("store", [(1, 3)]), c.available("store"), c.versions("store")], [2, [0, 2], 3])

    def test_most_versions(self):
        c = Catalog({"core": ("store",), "store": ()})
        for number in range(16):
            self.assertSame(c.publish("core", [(number, number)]), number)
        self.assertRefused(TooMany, {"kind": "versions", "limit": 16}, c, "publish", "core", [(16, 16)])
        self.assertRefused(NotRising, {"user": "core", "used": "store"}, c, "publish", "core", [(14, 16)])
        self.assertRefused(InvalidWindows, {"position": 0}, c, "publish", "core", [None])
        self.assertSame([c.versions("core"), c.available("core"), c.publish("store", [])], [16, list(range(16)), 0])

    def test_withdrawals_make_no_room(self):
        c = Catalog({"core": ()})
        for number in range(16):
            c.publish("core", [])
        c.withdraw("core", 3)
        self.assertRefused(TooMany, {"kind": "versions", "limit": 16}, c, "publish", "core", [])

    def test_the_list_is_copied_and_not_changed(self):
        c = Catalog({"core": ("store",), "store": ()})
        windows = [(0, 1)]
        c.publish("core", windows)
        self.assertSame(windows, [(0, 1)])
        windows[0] = (5, 6)
        windows.append((7, 8))
        self.assertSame([c.window("core", "store", 0), c.history()], [(0, 1), [("publish", "core", ((0, 1),))]])

    def test_the_greatest_catalog(self):
        c = Catalog(uses_of(40))
        for number in range(16):
            for name in c.modules():
                windows = [(SIXTY - 40 + number + place, SIXTY - 20 + number) for place in range(len(c.uses(name)))]
                self.assertSame(c.publish(name, windows), number)
        self.assertSame([c.versions(name) for name in c.modules()], [16] * 12)
        self.assertSame(c.window("mb", c.uses("mb")[2], 15), (SIXTY - 23, SIXTY - 5))
        self.assertEqual(len(c.history()), 192)
        for name in c.modules():
            windows = [(SIXTY, SIXTY)] * len(c.uses(name))
            self.assertRefused(TooMany, {"kind": "versions", "limit": 16}, c, "publish", name, windows)
        self.assertEqual(c.clone(), c)


class Withdrawals(CatalogCase):
    def test_withdrawn_versions(self):
        c = three()
        self.assertSame(c.publish("core", [(0, 2), (1, None)]), 2)
        self.assertSame([c.withdraw("core", 1), c.available("core"), c.versions("core")], [None, [0, 2], 3])
        self.assertSame([c.is_available("core", number) for number in range(4)], [True, False, True, False])
        self.assertSame([c.withdraw("core", 2), c.available("core")], [None, [0]])
        self.assertSame([c.withdraw("core", 0), c.available("core"), c.available("store")], [None, [], [0, 1]])
        self.assertSame(c.history()[-3:], [("withdraw", "core", 1), ("withdraw", "core", 2), ("withdraw", "core", 0)])
        # A version that is published later goes on with the numbers, and brings nothing back.
        self.assertSame([c.publish("core", [(0, 2), (1, None)]), c.available("core"), c.versions("core")], [3, [3], 4])

    def test_unknown_modules(self):
        c = three()
        for value in NO_MODULES:
            with self.subTest(value=repr(value)):
                self.assertRefused(UnknownModule, {"value": value}, c, "withdraw", value, 0)
                self.assertRefused(UnknownModule, {"value": value}, c, "withdraw", value, None)
                self.assertRefused(UnknownModule, {"value": value}, c, "is_available", value, 0)
                self.assertRefused(UnknownModule, {"value": value}, c, "is_available", value, None)

    def test_versions_that_are_not_available(self):
        c = three()
        for value in NO_VERSIONS:
            with self.subTest(value=repr(value)):
                self.assertIs(c.is_available("core", value), False)
                self.assertRefused(UnknownVersion, {"module": "core", "version": value}, c, "withdraw", "core", value)
        c.withdraw("core", 1)
        self.assertRefused(UnknownVersion, {"module": "core", "version": 1}, c, "withdraw", "core", 1)
        self.assertRefused(UnknownVersion, {"module": "core", "version": True}, c, "withdraw", "core", True)
        self.assertRefused(UnknownVersion, {"module": "core", "version": False}, c, "withdraw", "core", False)
        self.assertSame([c.available("core"), c.is_available("core", False), c.is_available("core", 0)], [[0], False, True])


if __name__ == "__main__":
    unittest.main()
