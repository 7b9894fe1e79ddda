"""The error classes: bases, attributes, and how they are created."""

import unittest

from groupsteps import errors

FAMILIES = {
    "GroupError": (ValueError, {
        "InvalidName": ["value"], "InvalidVersion": ["value"], "InvalidWindow": ["value"],
        "InvalidWindows": ["position"], "InvalidUses": ["module"], "InvalidRows": ["position"],
        "InvalidState": ["module"], "InvalidDemand": ["value"], "InvalidGoals": ["position"],
        "InvalidStep": ["value"], "InvalidSteps": ["position"], "InvalidChange": [],
        "InvalidCount": ["value"], "InvalidText": ["line"], "InvalidEntry": ["value"],
        "InvalidCommand": [],
    }),
    "Missing": (LookupError, {
        "UnknownModule": ["value"], "UnknownUse": ["user", "used"],
        "UnknownVersion": ["module", "version"], "UnknownOperator": ["value"],
        "UnknownSession": ["value"],
    }),
    "Refused": (RuntimeError, {
        "NotRising": ["user", "used"], "NotConsistent": ["user", "used"], "NotBelow": ["module"],
        "CannotMeet": ["module", "version"], "NoStep": ["module", "version"], "MissingNeed": ["step"],
        "NotAvailable": ["step"], "Pinned": ["module", "version"], "InUse": ["module", "version"],
        "NameTaken": ["value"], "NothingToUndo": [],
    }),
    "LimitReached": (ArithmeticError, {
        "TooMany": ["kind", "limit"], "NoState": ["chain"], "Unreachable": ["chain"],
    }),
}


def expected_bases():
    """A dict from the name of each class to its one base class."""
    bases = {}
    for family, (python_error, members) in FAMILIES.items():
        bases[family] = python_error
        for name in members:
            bases[name] = getattr(errors, family)
    return bases


def expected_attributes():
    attributes = {family: [] for family in FAMILIES}
    for _, members in FAMILIES.values():
        attributes.update(members)
    return attributes


class Bases(unittest.TestCase):
    def test_the_classes_of_the_file_are_those_of_the_interface(self):
        found = {name for name, worth in vars(errors).items() if isinstance(worth, type)}
        self.assertEqual(found, set(expected_bases()))
        self.assertEqual(len(found), 39)

    def test_each_class_has_the_one_base_that_the_interface_names(self):
        for name, base in expected_bases().items():
            with self.subTest(name):
                self.assertEqual(getattr(errors, name).__bases__, (base,))

    def test_each_class_is_defined_in_the_file(self):
        for name in expected_bases():
            with self.subTest(name):
                error_class = getattr(errors, name)
                self.assertEqual((error_class.__name__, error_class.__module__), (name, "groupsteps.errors"))

    def test_there_are_no_other_subclass_relations(self):
        family_of = {name: family for family in FAMILIES for name in FAMILIES[family][1]}
        for one in expected_bases():
            for other in expected_bases():
                with self.subTest(one=one, other=other):
                    expected = one == other or family_of.get(one) == other
                    self.assertIs(issubclass(getattr(errors, one), getattr(errors, other)), expected)

    def test_each_class_belongs_to_one_family_of_python_errors(self):
        for family, (python_error, members) in FAMILIES.items():
            for name in [family, *members]:
                with self.subTest(name):
                    found = [base for base in (ValueError, LookupError, RuntimeError, ArithmeticError, TypeError)
                             if issubclass(getattr(errors, name), base)]
                    self.assertEqual(found, [python_error])


class Attributes(unittest.TestCase):
    def assertHolds(self, error, given):
        self.assertEqual(vars(error), given)
        for name in given:
            self.assertIs(getattr(error, name), given[name])

    def test_created_by_position(self):
        for name, attributes in expected_attributes().items():
            if attributes:
                with self.subTest(name):
                    given = {attribute: object() for attribute in attributes}
                    self.assertHolds(getattr(errors, name)(*given.values()), given)

    def test_created_by_keywords_in_the_other_sequence(self):
        for name, attributes in expected_attributes().items():
            if attributes:
                with self.subTest(name):
                    given = {attribute: object() for attribute in reversed(attributes)}
                    self.assertHolds(getattr(errors, name)(**given), given)

    def test_created_by_position_and_keyword(self):
        for name, attributes in expected_attributes().items():
            if len(attributes) == 2:
                with self.subTest(name):
                    first, second = attributes
                    given = {first: object(), second: object()}
                    error = getattr(errors, name)(given[first], **{second: given[second]})
                    self.assertHolds(error, given)

    def test_attributes_hold_values_of_any_kind(self):
        for worth in (None, True, False, 0, 1, "core", b"core", [("core", 0)], (("core", 0, 1),), {"core": 0}):
            for name, attributes in expected_attributes().items():
                if attributes:
                    with self.subTest(name=name, worth=worth):
                        given = {attribute: worth for attribute in attributes}
                        self.assertHolds(getattr(errors, name)(**given), given)

    def test_all_arguments_are_required_and_no_other_is_taken(self):
        for name, attributes in expected_attributes().items():
            if attributes:
                with self.subTest(name):
                    error_class = getattr(errors, name)
                    with self.assertRaises(TypeError):
                        error_class(*attributes[1:])
                    with self.assertRaises(TypeError):
                        error_class(*attributes, "more")

    def test_two_errors_of_a_class_are_independent(self):
        first, second = errors.InUse("core", 1), errors.InUse("store", 2)
        self.assertEqual([first.module, first.version, second.module, second.version], ["core", 1, "store", 2])


class Messages(unittest.TestCase):
    def test_created_with_a_message(self):
        for name, attributes in expected_attributes().items():
            if not attributes:
                with self.subTest(name):
                    error = getattr(errors, name)("what went wrong")
                    self.assertEqual((str(error), vars(error)), ("what went wrong", {}))

    def test_the_classes_with_a_message(self):
        names = [name for name, attributes in expected_attributes().items() if not attributes]
        self.assertEqual(names, ["GroupError", "Missing", "Refused", "LimitReached",
                                 "InvalidChange", "InvalidCommand", "NothingToUndo"])


class Catching(unittest.TestCase):
    def test_each_class_is_caught_by_itself_its_family_and_the_python_error(self):
        for family, (python_error, members) in FAMILIES.items():
            for name, attributes in members.items():
                error_class = getattr(errors, name)
                for caught_by in (error_class, getattr(errors, family), python_error):
                    with self.subTest(name=name, caught_by=caught_by):
                        with self.assertRaises(caught_by):
                            raise error_class(*(attributes or ["message"]))


if __name__ == "__main__":
    unittest.main()
