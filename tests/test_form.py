"""The form of the package: those rules of the language subset that are easy to check by machine."""

import ast
import builtins
import re
import unittest
import warnings
from pathlib import Path

FOLDER = Path(__file__).resolve().parent.parent / "groupsteps"
# What the interface of the document lists for each file.
INTERFACE = {
    "names.py": ["is_name", "is_version"],
    "windows.py": ["is_window", "contains", "rises", "first_falling", "least_reaching", "format_window",
                   "parse_window"],
    "catalogs.py": ["MOST_MODULES", "MOST_VERSIONS", "MOST_USES", "Catalog", "catalog_of"],
    "states.py": ["is_state", "conflicts", "first_conflict", "is_below", "lower_state", "upper_state"],
    "demands.py": ["is_demand", "settled", "following", "is_chain", "failing_chain", "demanded"],
    "least.py": ["least_state", "greatest_state", "least_with", "greatest_with", "least_meeting", "why"],
    "steps.py": ["all_steps", "is_step", "step_to", "start_of", "end_of", "needs", "direct_needs", "needed_by",
                 "why_together"],
    "plans.py": ["done_steps", "available_steps", "difference", "state_with", "target_state", "plan_for", "walk", "ways",
                 "is_plan", "state_after", "rounds", "longest_sequence"],
    "systems.py": ["System"],
    "runtimes.py": ["Runtime"],
    "changes.py": ["compare"],
    "texts.py": ["format_step", "parse_step", "format_catalog", "parse_catalog"],
    "histories.py": ["save", "load", "attempt"],
    "console.py": ["Console"],
}
# The methods that the interface lists for each class.
METHODS = {
    "Catalog": ["__init__", "modules", "uses", "users", "versions", "publish", "window", "withdraw", "is_available",
                "available", "history", "clone", "__eq__", "__len__", "__repr__"],
    "System": ["__init__", "meeting", "state_text", "progress", "catalog", "state", "entries", "start", "available",
               "perform", "pin", "unpin", "pins", "add_goal", "drop_goals", "operators", "goals", "blocked", "plan", "run",
               "retreat", "undo", "clone", "__eq__", "__len__", "__str__", "__repr__"],
    "Runtime": ["__init__", "begin", "finish", "sessions", "session_state", "session_limit", "advance", "talk", "running",
                "publish", "withdraw", "clone", "__eq__", "__repr__"],
    "Console": ["__init__", "execute", "run", "log", "runtime"],
}
OWN_METHODS = ["__init__", "__eq__", "__len__", "__repr__", "__str__"]
METHODS_OF_VALUES = {"append", "add", "endswith", "extend", "get", "index", "items", "join", "partition", "pop",
                     "removesuffix", "split", "values"}
# What stands at a class itself; it is neither a method of an object nor an attribute.
CLASS_VALUES = {"MOST_OPERATORS", "MOST_GOALS", "MOST_SESSIONS", "KIND"}
# With these a list must be given, not a generator expression.
TAKE_LISTS = ["any", "all", "min", "max", "sum", "sorted"]
BARRED_WORDS = re.compile(
    r"\b(type|typing|typing_extensions|enum|Enum|IntEnum|StrEnum|Flag|IntFlag|Generic|Protocol|ABC|ABCMeta|namedtuple"
    r"|NamedTuple|TypedDict|TYPE_CHECKING|abstractmethod)\b|dataclass|overload|contextmanager")
BUILTINS = {
    "len", "range", "enumerate", "zip", "min", "max", "sum", "abs", "sorted", "reversed", "int", "str", "bool", "bytes",
    "list", "tuple", "dict", "set", "isinstance", "ord", "repr", "any", "all", "divmod", "iter", "next", "property",
    "staticmethod", "classmethod", "super", "NotImplemented", "Exception", "ValueError", "TypeError", "KeyError",
    "IndexError", "LookupError", "ZeroDivisionError", "ArithmeticError", "RuntimeError",
}


def package_files():
    return sorted(FOLDER.glob("*.py"))


def tree_of(path):
    return ast.parse(path.read_text(encoding="utf-8"))


def nodes(path, *kinds):
    return [node for node in ast.walk(tree_of(path)) if isinstance(node, kinds)]


def defined_names(path):
    names = []
    for node in tree_of(path).body:
        if isinstance(node, (ast.FunctionDef, ast.ClassDef)):
            names.append(node.name)
        elif isinstance(node, ast.Assign):
            names.append(node.targets[0].id)
    return names


def is_setter(function):
    return any(isinstance(each, ast.Attribute) and each.attr == "setter" for each in function.decorator_list)


def bound_names(path):
    """Every name that the file gives a meaning, at any level."""
    names = [node.name for node in nodes(path, ast.FunctionDef, ast.ClassDef)]
    names += [node.arg for node in nodes(path, ast.arg)]
    names += [node.id for node in nodes(path, ast.Name) if isinstance(node.ctx, ast.Store)]
    names += [alias.asname or alias.name for node in nodes(path, ast.ImportFrom) for alias in node.names]
    return names


class Form(unittest.TestCase):
    def test_the_folder_holds_python_files_only(self):
        names = sorted(path.name for path in FOLDER.iterdir() if path.name != "__pycache__")
        self.assertIn("__init__.py", names)
        for name in names:
            self.assertRegex(name, r"\A(__init__|[a-z][a-z0-9_]*)\.py\Z")

    def test_sizes_and_characters(self):
        for path in package_files():
            text = path.read_text(encoding="utf-8")
            with self.subTest(path.name):
                self.assertLessEqual(len(text.splitlines()), 399)
                self.assertLessEqual(max(len(line) for line in text.split("\n")), 120)
                self.assertRegex(text, r"\A[ -~\n]*\Z")
                self.assertNotRegex(text, BARRED_WORDS)
                for function in nodes(path, ast.FunctionDef):
                    self.assertLessEqual(function.end_lineno - function.lineno + 1, 40)

    def test_no_warning_of_python(self):
        for path in package_files():
            with self.subTest(path.name), warnings.catch_warnings():
                warnings.simplefilter("error")
                compile(path.read_text(encoding="utf-8"), path.name, "exec")

    def test_imports_name_the_defining_file(self):
        for path in package_files():
            self.assertEqual(nodes(path, ast.Import), [])
            for node in nodes(path, ast.ImportFrom):
                with self.subTest(path.name, module=node.module):
                    self.assertRegex(node.module, r"\Agroupsteps\.[a-z]+\Z")
                    source = FOLDER / (node.module.split(".")[1] + ".py")
                    for alias in node.names:
                        self.assertIn(alias.name, defined_names(source))

    def test_module_level_and_statements(self):
        allowed = (ast.Expr, ast.ImportFrom, ast.FunctionDef, ast.ClassDef, ast.Assign)
        barred = (ast.Global, ast.AsyncFunctionDef, ast.Await, ast.Div, ast.AnnAssign)
        for path in package_files():
            with self.subTest(path.name):
                self.assertTrue(all(isinstance(node, allowed) for node in tree_of(path).body))
                self.assertEqual(nodes(path, *barred), [])
                self.assertFalse(any("%" in node.value for node in nodes(path, ast.Constant)
                                     if isinstance(node.value, str)))

    def test_names_are_plain_and_none_hides_another(self):
        for path in package_files():
            bound = bound_names(path)
            level = defined_names(path) + [alias.name for node in nodes(path, ast.ImportFrom) for alias in node.names]
            with self.subTest(path.name):
                self.assertEqual(len(level), len(set(level)))
                self.assertEqual(set(dir(builtins)) & set(bound), set())
                self.assertEqual([name for name in bound if name.startswith("_") and name not in OWN_METHODS], [])

    def test_no_local_name_hides_a_class_or_an_import(self):
        for path in package_files():
            taken = [node.name for node in nodes(path, ast.ClassDef)]
            taken += [alias.name for node in nodes(path, ast.ImportFrom) for alias in node.names]
            local = [node.arg for node in nodes(path, ast.arg)]
            local += [node.id for node in nodes(path, ast.Name) if isinstance(node.ctx, ast.Store)]
            with self.subTest(path.name):
                self.assertEqual(set(taken) & set(local), set())

    def test_only_known_names_are_read(self):
        for path in package_files():
            known = BUILTINS | set(bound_names(path))
            read = {node.id for node in nodes(path, ast.Name) if isinstance(node.ctx, ast.Load)}
            with self.subTest(path.name):
                self.assertEqual(read - known, set())

    def test_the_interface_is_defined_in_its_files(self):
        for name, listed in INTERFACE.items():
            with self.subTest(name):
                self.assertEqual([each for each in listed if each not in defined_names(FOLDER / name)], [])

    def test_the_methods_stand_in_their_classes(self):
        found = {node.name: node for path in package_files() for node in nodes(path, ast.ClassDef)}
        for name, listed in METHODS.items():
            body = [each for each in found[name].body if isinstance(each, ast.FunctionDef)]
            defined = [each.name for each in body if not is_setter(each)]
            with self.subTest(name):
                self.assertEqual(len(defined), len(set(defined)))
                self.assertEqual([each for each in listed if each not in defined], [])

    def test_no_attribute_has_the_name_of_a_method(self):
        methods, settable, assigned, read = set(), set(), set(), set()
        for path in package_files():
            for node in nodes(path, ast.ClassDef):
                body = [each for each in node.body if isinstance(each, ast.FunctionDef)]
                methods |= {each.name for each in body}
                settable |= {each.name for each in body if is_setter(each)}
            for node in nodes(path, ast.Attribute):
                (assigned if isinstance(node.ctx, ast.Store) else read).add(node.attr)
        self.assertEqual(settable, {"session_limit"})
        self.assertLessEqual(methods & assigned, settable)
        self.assertEqual(read - assigned - methods - METHODS_OF_VALUES - CLASS_VALUES, {"setter"})

    def test_class_values_are_read_only(self):
        for path in package_files():
            for node in nodes(path, ast.Attribute):
                if node.attr in CLASS_VALUES:
                    self.assertIsInstance(node.ctx, ast.Load)

    def test_errors_are_created_where_they_are_raised(self):
        for path in package_files():
            for node in nodes(path, ast.Raise):
                with self.subTest(path.name, line=node.lineno):
                    self.assertIsInstance(node.exc, ast.Call)
                    self.assertIn(node.exc.func.id, defined_names(FOLDER / "errors.py"))
            for node in nodes(path, ast.ExceptHandler):
                caught = node.type.elts if isinstance(node.type, ast.Tuple) else [node.type]
                for each in caught:
                    self.assertIn(each.id, defined_names(FOLDER / "errors.py"))

    def test_is_stands_beside_none_true_and_false_only(self):
        for path in package_files():
            for node in nodes(path, ast.Compare):
                for sign, right in zip(node.ops, node.comparators):
                    if isinstance(sign, (ast.Is, ast.IsNot)):
                        self.assertIn(right.value, [None, True, False])

    def test_generators_are_not_called(self):
        for path in package_files():
            made = {function.name for function in nodes(path, ast.FunctionDef)
                    if any(isinstance(each, (ast.Yield, ast.YieldFrom)) for each in ast.walk(function))}
            self.assertLessEqual(made, {"walk", "ways"})
            called = {node.func.id for node in nodes(path, ast.Call) if isinstance(node.func, ast.Name)}
            self.assertEqual(called & {"walk", "ways"}, set())

    def test_lists_and_no_generator_expressions(self):
        for path in package_files():
            for node in nodes(path, ast.Call):
                if isinstance(node.func, ast.Name) and node.func.id in TAKE_LISTS:
                    with self.subTest(path.name, line=node.lineno):
                        self.assertFalse(any(isinstance(each, ast.GeneratorExp) for each in node.args))

    def test_no_two_files_import_from_each_other(self):
        imports = {path.stem: [node.module.split(".")[1] for node in nodes(path, ast.ImportFrom)]
                   for path in package_files()}
        while imports:
            free = [name for name in imports if not any(other in imports for other in imports[name])]
            self.assertNotEqual(free, [], f"a circle: {sorted(imports)}")
            for name in free:
                del imports[name]


if __name__ == "__main__":
    unittest.main()
