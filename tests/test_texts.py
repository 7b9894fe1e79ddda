import unittest

from groupsteps.catalogs import Catalog, catalog_of
from groupsteps.errors import InvalidStep, InvalidText
from groupsteps.steps import all_steps
from groupsteps.texts import format_catalog, format_step, parse_catalog, parse_step
from tests.small import close_catalogs, consistent_states, doc_catalog, random_catalogs
from tests.support import StrictCase, Touchy, wrong_kinds
from tests.test_steps import large_catalog
from tests.wrong_lines import is_step_text, many_spoilt, wrong_catalog_line

DOC_TEXT = """module core store
module store core
module shell core
publish core 0..0
publish core 0..1
publish core 1..
publish store 0..1
publish store 1..2
publish shell 0..1
publish shell 0..2
publish shell 2..
"""
MOST = 10 ** 60 - 1


def greatest_catalog(bound=MOST):
    """12 modules with the longest names, 40 uses, 16 versions each, and numbers of 60 digits."""
    names = ["module" + "ab"[place // 6] + "cdefgh"[place % 6] for place in range(12)]
    uses = {name: tuple(other for other in names if other != name)[:4 if place < 4 else 3]
            for place, name in enumerate(names)}
    catalog = Catalog(uses)
    for name in names:
        for version in range(16):
            catalog.publish(name, [(bound - 1, bound) if version < 15 else (bound, None)] * len(uses[name]))
    for name in names[::2]:
        catalog.withdraw(name, 15)
        catalog.withdraw(name, 0)
    return catalog


def has_steps(catalog):
    # There is no list of all states of a large catalog.
    return len(catalog) == 12 or len(consistent_states(catalog)) > 0


class StepTexts(StrictCase):
    def test_there_and_back(self):
        for catalog in [*close_catalogs(60, seed=91), *random_catalogs(60, seed=92), large_catalog(1, 0)]:
            for step in all_steps(catalog) if has_steps(catalog) else []:
                text = ",".join(f"{name}:{old}:{new}" for name, old, new in step)
                self.assertSame(format_step(step), text)
                self.assertSame(parse_step(text), step)

    def test_tuples_that_are_steps_of_no_catalog(self):
        for step, text in [((("a", 3, 4),), "a:3:4"), ((("z", 0, 7), ("abcdefgh", 5, 6)), "z:0:7,abcdefgh:5:6"),
                           ((("a", 0, MOST),), "a:0:" + "9" * 60), ((("a", MOST - 1, MOST),), f"a:{MOST - 1}:{MOST}"),
                           (tuple((letter, 0, 10) for letter in "abcdefghijklmnop"),
                            ",".join(letter + ":0:10" for letter in "abcdefghijklmnop"))]:
            self.assertSame(format_step(step), text)
            self.assertSame(format_step(step=step), text)
            self.assertSame(parse_step(text), step)
            self.assertSame(parse_step(text=text), step)

    def test_no_step(self):
        for value in [
                *wrong_kinds(), "a:0:1", [("a", 0, 1)], (["a", 0, 1],), ("a", 0, 1), (("a", 0),), (("a", 0, 1, 2),),
                (("a", 1, 1),), (("a", 1, 0),), (("a", -1, 0),), (("a", False, 1),), (("a", 0, True),), (("A", 0, 1),),
                (("", 0, 1),), (("abcdefghi", 0, 1),), ((b"a", 0, 1),), (("a", "0", 1),), (("a", 0, None),),
                (("a", 0, 1), ("a", 1, 2)), (("a", 0, 1), ("b", 0, 1), ("a", 0, 1)), (("a", 0, 1), None),
                (("a", 0, 1), ()), ((Touchy(), 0, 1),), (("a", Touchy(), 1),), (("a", 0, Touchy()),), (Touchy(),),
                (("a", 0, [1]),), ((["a"], 0, 1),), {("a", 0, 1)}, {("a", 0, 1): 1}]:
            self.assertFails(InvalidStep, {"value": value}, format_step, value)

    def test_no_string(self):
        for value in [*wrong_kinds(), (("a", 0, 1),), b"a:0:1", 1]:
            self.assertFails(InvalidText, {"line": 0}, parse_step, value)

    def test_wrong_texts(self):
        for text in ["", " ", "a", "a:0", "a:0:1:2", "a:0:1,", ",a:0:1", "a:0:1,,b:0:1", "a:0:1, b:0:1", "a:0:1 ",
                     " a:0:1", "a: 0:1", "a:0:1\n", "a:00:1", "a:0:01", "a:+0:1", "a:0:+1", "a:-1:1", "a:1:1", "a:2:1",
                     "a:0:1,a:1:2", "a:0:1,b:0:1,a:0:1", "A:0:1", ":0:1", "abcdefghi:0:1", "a::1", "a:0:", "a:0:x",
                     "a:0:1_0", "a:0:1.0", "a:0:1;b:0:1", "a:0:1:b:0:1", "a,0,1", "a:0:" + "9" * 61,
                     "a:" + "9" * 61 + ":" + "9" * 61]:
            self.assertFails(InvalidText, {"line": 1}, parse_step, text)

    def test_spoilt_texts(self):
        right = wrong = 0
        for text in many_spoilt("core:0:1,store:10:12,a:9:10", 3000, 93):
            if is_step_text(text):
                right += 1
                self.assertSame(format_step(parse_step(text)), text)
            else:
                wrong += 1
                self.assertFails(InvalidText, {"line": 1}, parse_step, text)
        self.assertTrue(right > 100 and wrong > 1000, (right, wrong))


class CatalogTexts(StrictCase):
    def assertWrong(self, line, text):
        self.assertFails(InvalidText, {"line": line}, parse_catalog, text)
        self.assertEqual(wrong_catalog_line(text), line)

    def assertThereAndBack(self, catalog):
        text = format_catalog(catalog)
        other = parse_catalog(text)
        self.assertEqual(other, catalog)
        self.assertSame(format_catalog(other), text)
        self.assertIsNone(wrong_catalog_line(text))

    def test_there_and_back(self):
        self.assertSame(format_catalog(doc_catalog()), DOC_TEXT)
        for catalog in [*random_catalogs(200, seed=94), *close_catalogs(100, seed=95), large_catalog(3, 2)]:
            self.assertThereAndBack(catalog)

    def test_withdrawn_versions(self):
        catalog = doc_catalog()
        for module, version in [("shell", 2), ("shell", 0), ("core", 1), ("store", 1)]:
            catalog.withdraw(module, version)
        text = DOC_TEXT + "withdraw core 1\nwithdraw store 1\nwithdraw shell 0\nwithdraw shell 2\n"
        self.assertSame(format_catalog(catalog), text)
        self.assertEqual(parse_catalog(text), catalog)

    def test_the_history_is_in_the_sequence_of_the_lines(self):
        catalog = Catalog({"core": ("store",), "store": ()})
        catalog.publish("store", [])
        catalog.withdraw("store", 0)
        catalog.publish("core", [(0, 2)])
        other = parse_catalog(format_catalog(catalog))
        self.assertEqual(other, catalog)
        self.assertSame(other.history(), [("publish", "core", ((0, 2),)), ("publish", "store", ()),
                                          ("withdraw", "store", 0)])
        self.assertSame(catalog.history()[0], ("publish", "store", ()))

    def test_the_greatest_catalog(self):
        catalog = greatest_catalog()
        self.assertEqual(sum(len(catalog.uses(module)) for module in catalog.modules()), 40)
        self.assertThereAndBack(catalog)
        text = format_catalog(catalog)
        lines = text.split("\n")
        place = next(number for number, line in enumerate(lines, start=1) if line.startswith("publish"))
        # One digit more, one module more, one use more, one version more.
        self.assertWrong(place, text.replace("9" * 59 + "8..", "9" * 60 + "8..", 1))
        self.assertWrong(place, text.replace(".." + "9" * 60, ".." + "9" * 61, 1))
        self.assertWrong(13, text.replace("publish", "module m\npublish", 1))
        last = lines[11]
        another = next(name for name in catalog.modules() if name not in last)
        self.assertWrong(12, text.replace(last, last + " " + another, 1))
        first = lines[0]
        another = next(name for name in catalog.modules() if name not in first)
        self.assertWrong(12, text.replace(first, first + " " + another, 1))
        self.assertWrong(place + 16, text.replace(lines[place + 14], lines[place + 14] + "\n" + lines[place + 14], 1))

    def test_catalogs_without_versions(self):
        for text in ["module a\n", "module a b\nmodule b a\n", "module abcdefgh\n"]:
            self.assertSame(format_catalog(parse_catalog(text=text)), text)
        self.assertSame(format_catalog(catalog=Catalog({"a": ()})), "module a\n")

    def test_no_string(self):
        for value in [*wrong_kinds(), DOC_TEXT.encode(), [DOC_TEXT], 1]:
            self.assertFails(InvalidText, {"line": 0}, parse_catalog, value)

    def test_wrong_beginnings(self):
        for text in ["", "\n", " ", "module", "module\n", "module \n", "module  a\n", " module a\n", "modul a\n",
                     "modulea\n", "module a", "module A\n", "module abcdefghi\n", "module a \n", "module a a\n",
                     "module a b b\nmodule b\n", "module a  b\nmodule b\n", "module a B\nmodule B\n", "publish a\n",
                     "withdraw a 0\n", "state 0\n", "module a b\n", "module a b\nmodule c\n", "module a b",
                     "module a b\n\nmodule b\n", "module a b\npublish b\nmodule b\n", "module a b\n module b\n",
                     "module a b\nmodule\nmodule  b\n", "module a 1\nmodule 1\n"]:
            self.assertWrong(1, text)

    def test_the_second_words_of_wrong_module_lines_count(self):
        # The first line names a module of a line that is wrong itself.
        self.assertWrong(2, "module a b\nmodule b")
        self.assertWrong(2, "module a b\nmodule b b\n")
        self.assertWrong(2, "module a b\nmodule b c\n")
        self.assertWrong(2, "module a b\nmodule b \n")
        self.assertWrong(3, "module a b\nmodule b\nmodule a\nmodule c\n")
        self.assertWrong(13, "".join(f"module {letter}{' z' if letter == 'a' else ''}\n" for letter in "abcdefghijklz"))

    def test_wrong_module_lines(self):
        self.assertWrong(2, "module a\nmodule a\n")
        self.assertWrong(2, "module a\n\n")
        self.assertWrong(2, "module a\n ")
        self.assertWrong(2, "module a\nmodule b c\npublish a\n")
        self.assertWrong(2, "module a\nmodule b c\npublish a\nmodule c\n")
        self.assertWrong(3, "module a\npublish a\nmodule b\n")
        self.assertWrong(2, "module a b\nmodule b b\nmodule c d\n")

    def test_wrong_publish_lines(self):
        start = "module a b\nmodule b\n"
        for line in ["publish", "publish ", "publish c", "publish a", "publish a ", "publish a 0", "publish a 0..1 0..1",
                     "publish a  0..1", "publish  a 0..1", " publish a 0..1", "publish a 0..1 ", "publish a 1..0",
                     "publish a 00..1", "publish a 0..01", "publish a +0..1", "publish a 0...1", "publish a ..",
                     "publish a ..1", "publish a -1..1", "publish b 0..1", "publish b ", "Publish b", "publishb",
                     "publish a 0..1\n", "publish A 0..1", "publish a (0, 1)", "publish a " + "1" * 61 + "..",
                     "publish a 0.." + "1" * 61]:
            self.assertWrong(3 if not line.endswith("\n") else 4, start + line + "\n")
        for line in ["publish a 0..1", "publish b", "publish", "x"]:
            self.assertWrong(3, start + line)
        self.assertWrong(4, start + "publish a 1..2\npublish a 0..2\n")
        self.assertWrong(4, start + "publish a 1..2\npublish a 1..1\n")
        self.assertWrong(4, start + "publish a 1..\npublish a 1..9\n")
        self.assertWrong(4, start + "publish b\npublish a 0..1\n")
        self.assertWrong(5, start + "publish a 0..1\npublish b\npublish a 0..1\n")
        self.assertWrong(19, start + "publish b\n" * 17)
        self.assertEqual(parse_catalog(start + "publish b\n" * 16).versions("b"), 16)

    def test_wrong_withdraw_lines(self):
        start = "module a\nmodule b\n" + "publish a\n" * 3 + "publish b\n" * 2
        for line in ["withdraw", "withdraw a", "withdraw a ", "withdraw a 3", "withdraw a 00", "withdraw a 01",
                     "withdraw a -1", "withdraw a x", "withdraw a 0 0", "withdraw a  0", "withdraw c 0", "withdraw A 0",
                     " withdraw a 0", "withdraw a 0 ", "withdraw a +1", "withdraw a " + "1" * 61, "withdraw  0"]:
            self.assertWrong(8, start + line + "\n")
        self.assertWrong(8, start + "withdraw a 0")
        self.assertWrong(9, start + "withdraw a 1\nwithdraw a 0\n")
        self.assertWrong(9, start + "withdraw a 1\nwithdraw a 1\n")
        self.assertWrong(9, start + "withdraw b 0\nwithdraw a 0\n")
        self.assertWrong(9, start + "withdraw b 0\npublish b\n")
        self.assertWrong(9, start + "withdraw b 0\nmodule c\n")
        self.assertWrong(9, start + "withdraw b 0\n\n")
        self.assertWrong(3, "module a\nmodule b\nwithdraw a 0\npublish a\n")
        catalog = parse_catalog(start + "withdraw a 0\nwithdraw a 2\nwithdraw b 0\nwithdraw b 1\n")
        self.assertSame([catalog.available("a"), catalog.available("b")], [[1], []])

    def test_spoilt_texts(self):
        right, lines = 0, set()
        catalogs = [*random_catalogs(25, seed=96), *close_catalogs(15, seed=97), doc_catalog()]
        for seed, catalog in enumerate(catalogs):
            for text in many_spoilt(format_catalog(catalog), 150, seed):
                line = wrong_catalog_line(text)
                if line is None:
                    right += 1
                    self.assertSame(format_catalog(parse_catalog(text)), text)
                else:
                    lines.add(line)
                    self.assertFails(InvalidText, {"line": line}, parse_catalog, text)
        self.assertGreater(right, 300)
        self.assertGreater(len(lines), 15)

    def test_results_are_new(self):
        first, second = parse_catalog(DOC_TEXT), parse_catalog(DOC_TEXT)
        first.withdraw("core", 0)
        self.assertEqual(second, doc_catalog())
        self.assertSame(format_catalog(second), DOC_TEXT)

    def test_the_catalog_stays_as_it_is(self):
        catalog = catalog_of([("core", ("store",), [[(0, 0)]]), ("store", (), [[], []])])
        before = catalog.clone()
        format_catalog(catalog)
        self.assertEqual((catalog, catalog.history()), (before, before.history()))


if __name__ == "__main__":
    unittest.main()
