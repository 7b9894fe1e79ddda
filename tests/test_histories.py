import re
import unittest
from collections import Counter
from copy import deepcopy

from groupsteps import errors
from groupsteps.errors import (InvalidCount, InvalidEntry, InvalidName, InvalidText, NothingToUndo, TooMany,
                               UnknownModule, UnknownOperator)
from groupsteps.histories import attempt, load, save
from groupsteps.runtimes import Runtime
from groupsteps.texts import format_catalog, parse_catalog
from tests.record import RUNTIME_CALLS, Arguments, Record, Refusal, assert_refusal, call, seen
from tests.small import Numbers, doc_catalog, own_conflicts
from tests.support import Touchy, wrong_kinds
from tests.test_runtimes import busy, random_runtime
from tests.test_steps import StepCase, large_catalog
from tests.test_systems import CORE, HIGH, LOW, SHELL, STORE, catalogs_with_states
from tests.test_texts import DOC_TEXT, greatest_catalog
from tests.wrong_lines import NUMBER, many_spoilt, own_entry, split_lines, wrong_catalog_line

OWN_ERRORS = (errors.GroupError, errors.Missing, errors.Refused, errors.LimitReached)
BUSY_TEXT = DOC_TEXT + """state 0 0 0
begin y
perform shell:0:1
begin x
perform core:0:1
goal ann store 1
pin shell 1
limit 3
publish shell 2..
"""


def told(runtime):
    """All that can be asked, without the history of the catalog: its sequence may be another one."""
    return {key: value for key, value in seen(runtime).items() if key != "history"}


def wrong_history_line(text):
    """The number of the first wrong line, by the words of the document; None if there is none."""
    lines, ended = split_lines(text)
    place = next((place for place, line in enumerate(lines) if place and line.split(" ")[0] == "state"), len(lines))
    before = "".join(line + "\n" for line in lines[:place])
    if place == len(lines) and lines and not ended:
        before = before[:-1]
    if wrong_catalog_line(before) is not None:
        return wrong_catalog_line(before)
    if place == len(lines):
        return len(lines) + 1
    catalog = parse_catalog(before)
    versions = lines[place].split(" ")[1:]
    if not all(re.fullmatch(NUMBER, each) for each in versions) or len(versions) != len(catalog):
        return place + 1
    state = dict(zip(catalog.modules(), map(int, versions)))
    if not all(state[name] in catalog.available(name) for name in state) or own_conflicts(catalog, state):
        return place + 1
    if place + 1 == len(lines) and not ended:
        return place + 1
    return wrong_entry_line(Runtime(catalog, state), lines, place + 1, ended)


def wrong_entry_line(runtime, lines, place, ended):
    for number, line in enumerate(lines[place:], start=place + 1):
        if own_entry(line) is None or (number == len(lines) and not ended):
            return number
        try:
            call(runtime, own_entry(line))
        except OWN_ERRORS:
            return number
    return None


def is_entry(entry):
    """Whether the value is an entry by its words and kinds; the values are those of Arguments."""
    kinds = RUNTIME_CALLS[entry[0]]
    for kind, item in zip(kinds, entry[1:]):
        if kind in ("module", "operator", "session"):
            right = isinstance(item, str) and item != ""
        elif kind in ("version", "count"):
            right = isinstance(item, int) and not isinstance(item, bool) and item >= 0
        elif kind == "windows":
            right = None not in item
        else:
            right = repr(item).startswith("((") and "True" not in repr(item)
        if not right:
            return False
    return True


class ThereAndBack(StepCase):
    def test_after_calls_at_random(self):
        words = Counter()
        for seed, (catalog, brute) in enumerate(catalogs_with_states(40, 101)):
            runtime, record = random_runtime(self, seed, catalog, 60)
            text = save(runtime)
            other = load(text)
            self.assertIs(other.__class__, Runtime)
            self.assertTrue(runtime == other)
            self.assertSame(told(other), told(runtime))
            self.assertSame(save(other), text)
            self.assertIsNone(wrong_history_line(text))
            words.update(entry[0] for entry in runtime.entries())
        self.assertEqual(set(words), set(RUNTIME_CALLS))

    def test_from_any_state(self):
        for catalog, brute in catalogs_with_states(30, 102):
            for state in brute.states[::4]:
                runtime = Runtime(catalog, state)
                text = format_catalog(catalog) + "state " + " ".join(str(state[name]) for name in brute.names) + "\n"
                self.assertSame(save(runtime), text)
                self.assertSame(told(load(text)), told(runtime))

    def test_every_entry(self):
        self.assertSame(save(busy()), BUSY_TEXT)
        runtime = busy()
        for entry in [("run", "ann"), ("talk", "x", "y"), ("advance", "y"), ("retreat", "core", 0), ("undo", 2),
                      ("drop", "ann"), ("unpin", "core"), ("finish", "x"), ("publish", "store", [(1, 5)]),
                      ("withdraw", "core", 2), ("limit", 8)]:
            call(runtime, entry)
        text = BUSY_TEXT + ("run ann\ntalk x y\nadvance y\nretreat core 0\nundo 2\ndrop ann\nunpin core\nfinish x\n"
                            "publish store 1..5\nwithdraw core 2\nlimit 8\n")
        self.assertSame(save(runtime), text)
        self.assertSame(told(load(text)), told(runtime))

    def test_the_catalog_is_the_first_one(self):
        runtime = Runtime(doc_catalog())
        runtime.publish("shell", [(2, None)])
        runtime.withdraw("core", 2)
        self.assertSame(save(runtime), DOC_TEXT + "state 0 0 0\npublish shell 2..\nwithdraw core 2\n")
        self.assertEqual(load(save(runtime)).start()[0], doc_catalog())

    def test_long_histories(self):
        catalog = large_catalog(2, 1)
        runtime = Runtime(catalog)
        for module in catalog.modules():
            runtime.add_goal("ann", module, 7)
        runtime.run("ann")
        runtime.begin("x")
        runtime.retreat("ma", 2)
        self.assertSame(told(load(save(runtime))), told(runtime))
        self.assertEqual(save(load(save(runtime))), save(runtime))

    def test_great_numbers(self):
        runtime = Runtime(doc_catalog())
        most = 10 ** 60 - 1
        runtime.pin("core", most)
        runtime.retreat("core", most)
        runtime.publish("shell", [(most, None)])
        self.assertSame(told(load(save(runtime))), told(runtime))
        text = DOC_TEXT + "state 0 0 0\n"
        for line in [f"pin core {most}", f"retreat core {most}", f"publish shell {most}..",
                     f"publish shell 2..\npin core {most}"]:
            self.assertSame(save(load(text + line + "\n")), text + line + "\n")
            number = 13 + line.count("\n")
            self.assertFails(InvalidText, {"line": number}, load, text + line.replace("9" * 60, "9" * 61) + "\n")
        self.assertFails(InvalidText, {"line": 217}, load, format_catalog(greatest_catalog()) + "x\n")

    def test_arguments_by_name_and_independence(self):
        runtime = busy()
        text = save(runtime=runtime)
        self.assertSame(told(load(text=text)), told(runtime))
        self.assertSame(seen(runtime), seen(busy()))
        one, other = load(text), load(text)
        one.finish("x")
        self.assertSame(told(other), told(busy()))


class WrongTexts(StepCase):
    def assertWrong(self, line, text):
        self.assertFails(InvalidText, {"line": line}, load, text)
        self.assertEqual(wrong_history_line(text), line)

    def test_no_string(self):
        for value in [*wrong_kinds(), BUSY_TEXT.encode(), [BUSY_TEXT], 1]:
            self.assertFails(InvalidText, {"line": 0}, load, value)

    def test_texts_that_end_before_the_state(self):
        self.assertWrong(1, "")
        self.assertWrong(2, "module a\n")
        self.assertWrong(3, "module a\npublish a\n")
        self.assertWrong(12, DOC_TEXT)
        self.assertWrong(1, "module a")
        self.assertWrong(2, "module a\npublish a")

    def test_wrong_catalogs(self):
        self.assertWrong(1, "state\n")
        self.assertWrong(1, "state 0\n")
        self.assertWrong(1, "state 0\nmodule a\npublish a\nstate 0\n")
        self.assertWrong(1, "\nstate 0\n")
        self.assertWrong(1, "module a b\npublish a 0..\nstate 0\n")
        self.assertWrong(2, "module a\npublish b\nstate 0\n")
        self.assertWrong(2, "module a\nx\nstate 0\n")
        self.assertWrong(2, "module a\n\npublish a\nstate 0\n")
        self.assertWrong(2, "module a\n state 0\n")
        self.assertWrong(3, "module a\npublish a\nwithdraw a 1\nstate 0\n")
        self.assertWrong(3, "module a\npublish a\nperform a:0:1\nstate 0\n")
        self.assertWrong(3, "module a\npublish a\nstates 0\n")
        self.assertWrong(3, "module a\npublish a\nState 0\n")
        # A line after the wrong one does not matter, whatever it is.
        self.assertWrong(2, "module a\nmodule a\nstate 0 0\nx")

    def test_wrong_states(self):
        start = "module a\nmodule b a\npublish a\npublish a\npublish b 0..0\n"
        self.assertEqual(load(start + "state 0 0\n").state(), {"a": 0, "b": 0})
        for line in ["state", "state ", "state 0", "state 0 0 0", "state 1 0", "state 0 1", "state 2 0", "state 0  0",
                     "state 00 0", "state 0 0 ", "state a b", "state -1 0", "state 0 +0", "state a=0 b=0",
                     "state 0 " + "1" * 61, "state 0 0.."]:
            self.assertWrong(6, start + line + "\n")
            self.assertWrong(6, start + line + "\nx")
        self.assertWrong(6, start + "state 0 0")
        self.assertWrong(7, start + "state 0 0\nstate 0 0\n")
        self.assertWrong(2, "module a\nstate\n")
        self.assertWrong(7, start + "withdraw a 0\nstate 0 0\n")

    def test_wrong_entries(self):
        start = DOC_TEXT + "state 0 0 0\n"
        for line in ["", " ", "x", "perform", "perform ", "perform core:0:1 ", "perform core:0:1 store:0:1", "perform core",
                     "perform core:00:1", "perform core:0:1,core:0:1", "perform  core:0:1", " perform core:0:1", "run",
                     "run ann bob", "retreat core", "retreat core 00", "retreat core 0 0", "retreat core x", "retreat  0",
                     "undo", "undo 01", "undo x", "undo 1 1", "undo -1", "pin core", "pin core 1 ", "pin core 1 2", "unpin",
                     "unpin core 0", "goal ann core", "goal ann core 1 1", "goal ann core 01", "goal ann  1", "drop",
                     "drop ann bob", "begin", "begin x y", "begin ", "finish", "advance", "talk x", "talk x y z", "publish",
                     "publish shell 2", "publish shell 2...", "publish shell 3..2", "publish shell 2.. ", "publish  shell",
                     "withdraw core", "withdraw core 01", "limit", "limit 01", "limit x", "limit 1 1", "module log", "state",
                     "available", "steps", "plan", "running core", "state 0 0 0", "Perform core:0:1", "perform: core:0:1",
                     "goal ann core " + "1" * 61, "pin core " + "1" * 61, "perform core:0:" + "1" * 61]:
            self.assertWrong(13, start + line + "\n")
            self.assertWrong(13, start + line + "\nx\n")
            self.assertWrong(14, start + "begin z\n" + line + "\n")

    def test_entries_that_are_refused(self):
        start = DOC_TEXT + "state 0 0 0\n"
        for line in ["perform store:0:1", "perform core:0:2", "perform log:0:1", "run ann", "retreat log 0", "undo 0",
                     "undo 1", "pin log 0", "unpin log", "goal Ann core 1", "goal ann log 1", "goal ann core 3", "drop ann",
                     "begin X", "finish x", "advance x", "talk x y", "publish log", "publish shell", "publish shell 1..",
                     "publish shell 2.. 2..", "withdraw log 0", "withdraw core 3", "withdraw core 0", "limit 0", "limit 9",
                     "begin a-b", "goal a=b core 1"]:
            self.assertWrong(13, start + line + "\n")
        self.assertWrong(15, start + "pin core 0\nbegin x\nperform core:0:1\n")
        self.assertWrong(14, start + "begin x\nbegin x\n")
        self.assertWrong(15, start + "limit 1\nbegin x\nbegin y\n")
        self.assertWrong(15, start + "perform core:0:1\nwithdraw core 2\nundo 1\n")

    def test_without_the_last_line_feed(self):
        lines = BUSY_TEXT.split("\n")
        for many in range(1, len(lines)):
            self.assertWrong(many, "\n".join(lines[:many]))

    def test_spoilt_texts(self):
        right, lines, found = 0, set(), Counter()
        for seed, (catalog, brute) in enumerate(catalogs_with_states(25, 103)):
            runtime, record = random_runtime(self, seed, catalog, 25)
            for text in many_spoilt(save(runtime), 80, seed):
                line = wrong_history_line(text)
                if line is None:
                    right += 1
                    self.assertSame(save(load(text)), text)
                else:
                    lines.add(line)
                    found[(text.split("\n") + [""])[line - 1].split(" ")[0]] += 1
                    self.assertFails(InvalidText, {"line": line}, load, text)
        self.assertGreater(right, 100)
        self.assertGreater(len(lines), 25)
        self.assertTrue(all(found[word] > 20 for word in ["module", "publish", "state", "perform"]), found)


class Attempts(StepCase):
    def test_all_or_nothing_at_random(self):
        counts = Counter()
        for seed, (catalog, brute) in enumerate(catalogs_with_states(40, 104)):
            numbers = Numbers(seed)
            runtime, record = random_runtime(self, seed, catalog, 10)
            for number in range(20):
                record, outcome = self.try_some(numbers, runtime, record)
                counts[outcome] += 1
        self.assertTrue(all(counts[outcome] > 50 for outcome in ["done", "refused", "no entry", "refused late"]), counts)

    def try_some(self, numbers, runtime, record):
        """One attempt with entries at random: the record after it, and what came of it."""
        later, entries, results = deepcopy(record), [], []
        refusal = None
        for number in range(numbers.below(5)):
            entry = Arguments(numbers, later).entry(RUNTIME_CALLS)
            entries.append((*entry[:2], tuple(entry[2])) if entry[0] == "publish" else entry)
            try:
                if refusal is None:
                    results.append(later.call(entry))
            except Refusal as error:
                refusal = error
        wrong = next((entry for entry in entries if not is_entry(entry)), None)
        before = seen(runtime)
        if wrong is None and refusal is None:
            self.assertSame(attempt(runtime, *entries), results)
            self.assertSame(seen(runtime), later.seen())
            return later, "done"
        if wrong is not None:
            self.assertFails(InvalidEntry, {"value": wrong}, attempt, runtime, *entries)
        else:
            assert_refusal(self, later.catalog, refusal, self.caught(attempt, runtime, *entries))
        self.assertSame(seen(runtime), before)
        return record, "no entry" if wrong is not None else "refused late" if results else "refused"

    def test_results(self):
        runtime = Runtime(doc_catalog())
        self.assertSame(attempt(runtime), [])
        self.assertSame(attempt(runtime, ("begin", "x"), ("perform", CORE), ("begin", "y"), ("advance", "x"),
                                ("talk", "x", "y"), ("publish", "shell", ((2, None),)), ("goal", "ann", "shell", 1),
                                ("run", "ann"), ("retreat", "shell", 0), ("undo", 1), ("limit", 2), ("finish", "y"),
                                ("pin", "core", 1), ("unpin", "core"), ("drop", "ann"), ("withdraw", "shell", 3)),
                        [None, None, None, [CORE], {"core": 1, "store": 0, "shell": 0}, 3, None, [SHELL], [SHELL], None,
                         None, None, None, None, None, None])
        self.assertSame(len(runtime), 16)
        self.assertSame(runtime.session_limit, 2)

    def test_refused_part_of_the_way(self):
        for entries, error, attributes in [
                ([("perform", STORE), ("undo", 4)], NothingToUndo, {}),
                ([("begin", "z"), ("begin", "v")], TooMany, {"kind": "sessions", "limit": 3}),
                ([("retreat", "core", 0), ("finish", "x"), ("run", "bob")], UnknownOperator, {"value": "bob"}),
                ([("undo", 2), ("undo", 0)], InvalidCount, {"value": 0}),
                ([("withdraw", "core", 2), ("publish", "store", ((1, 2),)), ("pin", "log", 0)], UnknownModule,
                 {"value": "log"}),
                ([("limit", 8), ("talk", "x", "y"), ("drop", "ann"), ("goal", "Ann", "core", 1)], InvalidName,
                 {"value": "Ann"})]:
            runtime = busy()
            self.assertFails(error, attributes, attempt, runtime, *entries)
            self.assertSame(seen(runtime), seen(busy()))
            self.assertTrue(runtime == busy())
            # What can be undone is as before, too.
            runtime.undo(count=2)
            self.assertSame(runtime.state(), LOW)

    def test_values_that_are_no_entries(self):
        runtime = busy()
        for value in [
                *wrong_kinds(), "begin x", ["begin", "x"], ("begin",), ("begin", "x", "y"), ("nothing",), ("begin", ""),
                ("begin", "a b"), ("begin", "a\n"), ("begin", 1), ("begin", None), ("begin", ["x"]), ("begin", b"x"),
                ("undo", -1), ("undo", True), ("undo", "1"), ("undo", None), ("undo", 1, 1), ("undo",), ("limit", False),
                ("limit", "3"), ("perform", ()), ("perform", [("core", 0, 1)]), ("perform", "core:0:1"),
                ("perform", (("core", 1, 0),)), ("perform", (("core", 0, True),)), ("perform", CORE, CORE),
                ("perform", (("core", 0, 1), ("core", 1, 2))), ("pin", "core", True), ("pin", "core", -1), ("pin", "core"),
                ("goal", "ann", "core"), ("goal", "ann", "core", None), ("goal", "", "core", 1), ("goal", "ann", "a b", 1),
                ("publish", "shell", [(2, None)]), ("publish", "shell", ((2, 1),)), ("publish", "shell", ([2, None],)),
                ("publish", "shell", (2, None)), ("publish", "shell"), ("publish", "shell", ((True, None),)),
                ("publish", "shell", None), ("talk", "x"), ("talk", "x", " "), ("state",), ("state", "x"), (Touchy(), "x"),
                ("begin", Touchy()), (["begin"], "x"), ("Begin", "x"), ("add_goal", "ann", "core", 1), ("withdraw", "core")]:
            self.assertFails(InvalidEntry, {"value": value}, attempt, runtime, value)
            self.assertFails(InvalidEntry, {"value": value}, attempt, runtime, ("undo", 9), value, None)
        self.assertSame(seen(runtime), seen(busy()))

    def test_entries_by_their_form_that_are_refused(self):
        runtime = busy()
        self.assertFails(InvalidName, {"value": "X:=1"}, attempt, runtime, ("begin", "X:=1"))
        self.assertFails(InvalidCount, {"value": 0}, attempt, runtime, ("limit", 0))
        self.assertFails(UnknownModule, {"value": "LOG"}, attempt, runtime, ("unpin", "LOG"))
        self.assertSame(seen(runtime), seen(busy()))

    def test_what_is_passed_and_returned_is_copied(self):
        runtime = Runtime(doc_catalog(), HIGH)
        entries = [("begin", "x"), ("begin", "y"), ("talk", "x", "y"), ("retreat", "core", 0)]
        results = attempt(runtime, *entries)
        results[2].clear()
        results[3].clear()
        entries.clear()
        self.assertSame(len(runtime), 4)
        self.assertSame(runtime.session_state("x"), runtime.state())

    def test_the_same_object_goes_on(self):
        runtime = busy()
        clone = runtime.clone()
        attempt(runtime, ("finish", "x"), ("withdraw", "core", 2))
        self.assertSame(seen(clone), seen(busy()))
        self.assertSame(runtime.sessions(), ["y"])
        self.assertSame(runtime.start(), busy().start())
        self.assertFails(NothingToUndo, {}, runtime.undo)
        self.assertSame(runtime.entries()[-1], ("withdraw", "core", 2))


if __name__ == "__main__":
    unittest.main()
