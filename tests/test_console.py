import re
import unittest
from collections import Counter

from groupsteps.console import Console
from groupsteps.errors import (InvalidCommand, InvalidCount, InvalidName, InvalidState, InvalidStep, InvalidWindows,
                               InUse, NameTaken, NotAvailable, NotConsistent, NothingToUndo, NotRising, Pinned, TooMany,
                               UnknownModule, UnknownOperator, UnknownSession, UnknownVersion)
from groupsteps.least import least_with, why
from groupsteps.runtimes import Runtime
from groupsteps.steps import all_steps
from tests.record import RUNTIME_CALLS, Arguments, Record, call, seen
from tests.small import Numbers, doc_catalog
from tests.support import wrong_kinds
from tests.test_histories import OWN_ERRORS
from tests.test_steps import StepCase, large_catalog, stuck_catalog
from tests.test_systems import CORE, HIGH, LOW, catalogs_with_states
from tests.wrong_lines import NUMBER, WORD, own_entry, spoilt_words

QUERIES = {
    "state": ["", f" {WORD}"], "available": [""], "steps": [""], "plan": ["", f" {WORD}"], "blocked": [f" {WORD}"],
    "least": [f" {WORD} {NUMBER}"], "why": [f" {WORD} {NUMBER} {WORD}"], "running": [f" {WORD}"],
}
BUSY = ["begin y", "perform shell:0:1", "begin x", "perform core:0:1", "goal ann store 1", "pin shell 1", "limit 3",
        "publish shell 2.."]


def is_query(command):
    word = command.split(" ")[0]
    return any(re.fullmatch(word + rest, command) for rest in QUERIES.get(word, []))


def is_command(command):
    return is_query(command) or ("\n" not in command and own_entry(command) is not None)


def text_of(result):
    """The result of a query or of a method as a string, by its kind."""
    if result is None or result == []:
        return "-"
    if isinstance(result, int):
        return str(result)
    if isinstance(result, dict):
        return " ".join(f"{name}={version}" for name, version in result.items())
    if isinstance(result[0], int):
        return " ".join(map(str, result))
    if isinstance(result[0][0], str):
        return " ".join(f"{module}:{version}" for module, version in result)
    return " ".join(",".join(f"{name}:{old}:{new}" for name, old, new in step) for step in result)


def ask(runtime, command):
    """The result of a query."""
    word, *items = command.split(" ")
    if word == "state":
        return runtime.session_state(*items) if items else runtime.state()
    if word == "available":
        return runtime.available()
    if word == "steps":
        return all_steps(runtime.catalog())
    if word == "plan":
        return runtime.plan(operator=items[0]) if items else runtime.plan()
    if word == "least":
        return least_with(runtime.catalog(), items[0], int(items[1]))
    if word == "why":
        return why(runtime.catalog(), items[0], int(items[1]), items[2])
    return getattr(runtime, word)(*items)


def answered(runtime, command):
    """What the console has to return for a command; the runtime changes with it."""
    if is_query(command):
        return text_of(ask(runtime, command))
    result = call(runtime, own_entry(command))
    return "ok" if result is None else text_of(result)


def line_of(entry):
    """The line of an entry, also of one with items of wrong kinds."""
    word, *items = entry
    if word == "publish":
        windows = [window if window is not None else (1, 0) for window in items[1]]
        texts = [items[0], *[f"{low}..{'' if high is None else high}" for low, high in windows]]
    elif word == "perform" and isinstance(items[0], tuple):
        texts = [",".join(":".join(map(str, item)) for item in items[0])]
    else:
        texts = items
    return " ".join(map(str, [word, *texts]))


def random_query(arguments):
    numbers = arguments.numbers
    words = list(QUERIES)
    word = words[numbers.below(len(words))]
    items = {"state": [arguments.session], "plan": [arguments.operator], "blocked": [arguments.operator],
             "least": [arguments.module, arguments.version], "running": [arguments.module],
             "why": [arguments.module, arguments.version, arguments.module]}.get(word, [])
    if word in ("state", "plan") and numbers.below(2):
        items = []
    return " ".join([word, *[str(make()) for make in items]])


def random_command(arguments):
    command = line_of(arguments.entry(RUNTIME_CALLS)) if arguments.numbers.below(5) < 3 else random_query(arguments)
    return spoilt_words(arguments.numbers, command) if arguments.numbers.below(8) == 0 else command


def busy_console():
    console = Console(doc_catalog())
    console.run(BUSY)
    return console


class ConsoleCase(StepCase):
    def assertAnswered(self, console, command, runtime):
        """The console does with the command what the methods do; whether it was done."""
        if not is_command(command):
            before = seen(console.runtime())
            self.assertIs(self.caught(console.execute, command).__class__, InvalidCommand)
            self.assertSame(seen(console.runtime()), before)
            return "no command"
        try:
            expected = answered(runtime, command)
        except OWN_ERRORS as error:
            other = self.caught(console.execute, command)
            self.assertIs(other.__class__, error.__class__)
            self.assertSame(vars(other), vars(error))
            self.assertSame(seen(console.runtime()), seen(runtime))
            return "refused"
        self.assertSame(console.execute(command), expected)
        self.assertSame(seen(console.runtime()), seen(runtime))
        return "done"

    def assertRefused(self, error_class, attributes, function, given):
        error = self.caught(function, given)
        self.assertIs(error.__class__, error_class)
        self.assertSame(vars(error), attributes)


class AtRandom(ConsoleCase):
    def test_commands_and_queries(self):
        outcomes, done = Counter(), Counter()
        for seed, (catalog, brute) in enumerate(catalogs_with_states(35, 111)):
            numbers = Numbers(seed)
            state = brute.states[numbers.below(len(brute.states))] if numbers.below(2) else None
            console, runtime = Console(catalog, state), Runtime(catalog, state)
            for number in range(80):
                # The record of the tests is not needed here, only what arguments are chosen from.
                record = Record(runtime.catalog(), runtime.state(), runtime=True)
                record.goals = {operator: runtime.goals(operator) for operator in runtime.operators()}
                record.sessions = {session: runtime.session_state(session) for session in runtime.sessions()}
                command = random_command(Arguments(numbers, record))
                outcome = self.assertAnswered(console, command, runtime)
                outcomes[outcome] += 1
                done[command.split(" ")[0]] += outcome == "done"
        self.assertTrue(all(outcomes[outcome] > 200 for outcome in ["done", "refused", "no command"]), outcomes)
        self.assertTrue(all(done[word] > 5 for word in [*RUNTIME_CALLS, *QUERIES]), done)

    def test_runs_are_done_as_a_whole_or_not_at_all(self):
        outcomes = Counter()
        for seed, (catalog, brute) in enumerate(catalogs_with_states(25, 112)):
            numbers = Numbers(seed)
            console, runtime, log = Console(catalog), Runtime(catalog), []
            record = Record(catalog, runtime=True)
            for number in range(12):
                commands = [random_command(Arguments(numbers, record)) for count in range(numbers.below(4))]
                trial, results, error = runtime.clone(), [], None
                for command in commands:
                    try:
                        if not is_command(command):
                            raise InvalidCommand("none")
                        results.append(answered(trial, command))
                    except OWN_ERRORS as raised:
                        error = raised
                        break
                log += [("begin", len(commands)), ("end", len(results))]
                if error is None:
                    self.assertSame(console.run(commands), results)
                    runtime = trial
                else:
                    other = self.caught(console.run, commands)
                    self.assertIs(other.__class__, error.__class__)
                    self.assertSame(vars(other), vars(error))
                outcomes[(error is None, bool(results))] += 1
                self.assertSame(console.log(), log)
                self.assertSame(seen(console.runtime()), seen(runtime))
        self.assertTrue(all(outcomes[(done, some)] > 15 for done in [True, False] for some in [True, False]), outcomes)


class Commands(ConsoleCase):
    def test_every_command(self):
        console = Console(doc_catalog())
        for command, expected in [
                ("state", "core=0 store=0 shell=0"), ("available", "core:0:1 shell:0:1"), ("begin x", "ok"),
                ("perform core:0:1", "ok"), ("begin y", "ok"), ("state x", "core=0 store=0 shell=0"),
                ("state y", "core=1 store=0 shell=0"), ("running core", "0 1"), ("running shell", "0"),
                ("advance x", "core:0:1"), ("advance x", "-"), ("goal ann store 1", "ok"), ("goal ann shell 2", "ok"),
                ("blocked ann", "-"), ("pin core 1", "ok"), ("blocked ann", "shell:2"), ("plan", "store:0:1 shell:0:1 "
                                                                                         "core:1:2 shell:1:2"),
                ("plan ann", "store:0:1 shell:0:1 core:1:2 shell:1:2"), ("run ann", "store:0:1"), ("run ann", "-"),
                ("talk x y", "core=1 store=0 shell=0"), ("retreat core 0", "core:0:1 store:0:1"), ("retreat core 0", "-"),
                ("undo 2", "ok"), ("state", "core=1 store=1 shell=0"), ("unpin core", "ok"), ("drop ann", "ok"),
                ("plan", "-"), ("publish shell 2..", "3"), ("publish shell 5..", "4"), ("withdraw shell 4", "ok"),
                ("steps", "core:0:1 core:1:2 store:0:1 shell:0:1 shell:1:2 shell:2:3"), ("limit 2", "ok"),
                ("finish x", "ok"), ("least shell 2", "core=2 store=1 shell=2"), ("why shell 2 store",
                                                                                   "shell:2 core:2 store:1"),
                ("why store 1 shell", "-"), ("why core 0 core", "-"), ("available", "shell:0:1")]:
            self.assertSame(console.execute(command), expected)
        self.assertSame(console.log(), [])

    def test_empty_lists(self):
        console = Console(doc_catalog(), HIGH)
        self.assertSame(console.run(["available", "plan", "state"]), ["-", "-", "core=2 store=1 shell=2"])
        console.execute("withdraw core 0")
        only = Console(console.runtime().catalog(), HIGH)
        self.assertSame(only.execute("steps"), "core:1:2 store:0:1 shell:0:1 shell:1:2")

    def test_a_catalog_without_steps(self):
        catalog = doc_catalog()
        for module, version in [("core", 1), ("core", 2), ("store", 1), ("shell", 1), ("shell", 2)]:
            catalog.withdraw(module, version)
        self.assertSame(Console(catalog).run(["steps", "available", "plan"]), ["-", "-", "-"])

    def test_no_command(self):
        console = busy_console()
        before = seen(console.runtime())
        for value in [*wrong_kinds(), b"state", ("state",), ["state"], 1]:
            self.assertIs(self.caught(console.execute, value).__class__, InvalidCommand)
        for command in [
                "", " ", "\n", "state\n", "begin z\n", "\nstate", "state\nstate", " state", "state ", "state  x", "state x y",
                "State", "states", "available x", "steps x", "plan x y", "plan ", "blocked", "blocked a b", "blocked ",
                "least", "least core", "least core x", "least core 01", "least core 1 1", "least core -1", "least  1",
                "why core 1", "why core 1 store 1", "why core x store", "why core 01 store", "why core store", "running",
                "running core store", "running ", "perform", "perform ", "perform core", "perform core:0:1 ",
                "perform core:1:1", "perform core:0:1,core:1:2", "perform core:0:1 shell:0:1", "perform core:0:01",
                "perform (('core', 0, 1),)", "run", "run a b", "retreat core", "retreat core x", "retreat core 1 1",
                "undo", "undo x", "undo 01", "undo -1", "undo 1 1", "pin core", "pin core 1 1", "pin core x", "unpin",
                "unpin core 1", "goal ann core", "goal ann core x", "goal ann core 1 1", "goal ann core 1 ", "drop", "drop a b",
                "begin", "begin a b", "finish", "finish a b", "advance", "advance a b", "talk x", "talk x y z", "publish",
                "publish ", "publish shell 2", "publish shell 3..2", "publish shell 02..", "publish shell 2.. ",
                "publish  shell", "withdraw core", "withdraw core x", "withdraw core 1 1", "limit", "limit x", "limit 1 1",
                "module log", "save", "load", "log", "session_state x", "all_steps", "add_goal ann core 1", "least core "
                + "1" * 61, "pin core " + "1" * 61, "publish shell 2.." + "1" * 61, "perform core:0:" + "1" * 61,
                "undo +1", "limit 1_0", "why core 1 ", "state 0 0 0"]:
            self.assertFalse(is_command(command), command)
            self.assertIs(self.caught(console.execute, command).__class__, InvalidCommand, command)
        self.assertSame(seen(console.runtime()), before)
        self.assertEqual(len(console.log()), 2)

    def test_what_is_refused(self):
        console = busy_console()
        before = seen(console.runtime())
        for command, error, attributes in [
                ("state z", UnknownSession, {"value": "z"}), ("state Z-1", UnknownSession, {"value": "Z-1"}),
                ("plan bob", UnknownOperator, {"value": "bob"}), ("blocked bob", UnknownOperator, {"value": "bob"}),
                ("least log 0", UnknownModule, {"value": "log"}), ("why log 0 cat", UnknownModule, {"value": "log"}),
                ("why core 0 cat", UnknownModule, {"value": "cat"}), ("running LOG", UnknownModule, {"value": "LOG"}),
                ("perform core:0:2", InvalidStep, {"value": (("core", 0, 2),)}),
                ("perform core:0:1", NotAvailable, {"step": CORE}), ("run bob", UnknownOperator, {"value": "bob"}),
                ("retreat log 0", UnknownModule, {"value": "log"}), ("undo 0", InvalidCount, {"value": 0}),
                ("undo 3", NothingToUndo, {}), ("pin log 0", UnknownModule, {"value": "log"}),
                ("unpin log", UnknownModule, {"value": "log"}), ("goal Ann core 1", InvalidName, {"value": "Ann"}),
                ("goal ann log 1", UnknownModule, {"value": "log"}), ("drop bob", UnknownOperator, {"value": "bob"}),
                ("begin x", NameTaken, {"value": "x"}), ("begin toolongname", InvalidName, {"value": "toolongname"}),
                ("finish z", UnknownSession, {"value": "z"}), ("advance z", UnknownSession, {"value": "z"}),
                ("talk x z", UnknownSession, {"value": "z"}), ("publish log", UnknownModule, {"value": "log"}),
                ("publish shell", InvalidWindows, {"position": None}),
                ("publish shell 1..", NotRising, {"user": "shell", "used": "core"}),
                ("withdraw core 7", UnknownVersion, {"module": "core", "version": 7}),
                ("withdraw core 1", InUse, {"module": "core", "version": 1}), ("limit 0", InvalidCount, {"value": 0}),
                ("limit 9", InvalidCount, {"value": 9})]:
            self.assertRefused(error, attributes, console.execute, command)
            self.assertRefused(error, attributes, console.run, ["unpin core", "limit 8", command, "state"])
            self.assertSame(seen(console.runtime()), before)
        self.assertUnreachable(doc_catalog(), ("core", 3), console.execute, "goal ann core 3")
        self.assertUnreachable(doc_catalog(), ("core", 3), console.execute, "least core 3")
        self.assertSame(seen(console.runtime()), before)

    def test_pins_and_limits(self):
        console = Console(doc_catalog())
        self.assertSame(console.run(["pin core 0", "limit 1", "begin a"]), ["ok", "ok", "ok"])
        self.assertRefused(Pinned, {"module": "core", "version": 0}, console.execute, "perform core:0:1")
        self.assertRefused(TooMany, {"kind": "sessions", "limit": 1}, console.execute, "begin b")


class Runs(ConsoleCase):
    def test_no_list(self):
        console = Console(doc_catalog())
        for value in [value for value in wrong_kinds() if not isinstance(value, list)] + ["state", ("state",)]:
            self.assertIs(self.caught(console.run, value).__class__, InvalidCommand)
        self.assertSame(console.log(), [])

    def test_logs(self):
        console = Console(doc_catalog())
        self.assertSame(console.run([]), [])
        console.execute("begin x")
        self.assertIs(self.caught(console.execute, "x").__class__, InvalidCommand)
        self.assertSame(console.run(["state", "begin y"]), ["core=0 store=0 shell=0", "ok"])
        self.assertIs(self.caught(console.run, ["begin z", "state", None, "state"]).__class__, InvalidCommand)
        self.assertRefused(NameTaken, {"value": "z"}, console.run, ["begin z", "begin z"])
        self.assertIs(self.caught(console.run, [["state"]]).__class__, InvalidCommand)
        self.assertSame(console.log(), [("begin", 0), ("end", 0), ("begin", 2), ("end", 2), ("begin", 4), ("end", 2),
                                        ("begin", 2), ("end", 1), ("begin", 1), ("end", 0)])
        self.assertSame(console.runtime().sessions(), ["x", "y"])
        console.log().clear()
        self.assertEqual(len(console.log()), 10)

    def test_the_list_stays_and_the_results_are_new(self):
        console, commands = Console(doc_catalog()), ["state", "begin x"]
        results = console.run(commands=commands)
        self.assertSame(commands, ["state", "begin x"])
        results.clear()
        commands.clear()
        self.assertSame(console.run(["state x"]), ["core=0 store=0 shell=0"])
        self.assertSame(console.execute(command="state"), "core=0 store=0 shell=0")

    def test_what_can_be_undone_after_a_refused_run(self):
        console = Console(doc_catalog())
        console.run(["perform core:0:1", "perform shell:0:1"])
        self.caught(console.run, ["undo 1", "withdraw core 2", "undo 1"])
        self.assertSame(console.run(["undo 2", "state", "steps"])[1], "core=0 store=0 shell=0")
        self.assertSame(console.runtime().catalog().available("core"), [0, 1, 2])


class Making(ConsoleCase):
    def test_errors_of_a_runtime(self):
        self.assertNoState(stuck_catalog(), Console, stuck_catalog())
        for value in [value for value in wrong_kinds() if not isinstance(value, dict) and value is not None]:
            self.assertFails(InvalidState, {"module": None}, Console, doc_catalog(), value)
        self.assertFails(InvalidState, {"module": "core"}, Console, doc_catalog(), {})
        self.assertFails(NotConsistent, {"user": "core", "used": "store"}, Console, doc_catalog(), {**LOW, "store": 1})

    def test_two_consoles_at_once(self):
        catalog, state = doc_catalog(), dict(LOW)
        one, other = Console(catalog, state), Console(catalog=catalog, state=state)
        one.run(BUSY)
        state.clear()
        catalog.withdraw("core", 0)
        self.assertSame(seen(other.runtime()), seen(Runtime(doc_catalog())))
        self.assertSame(other.log(), [])
        self.assertSame(one.execute("state"), "core=1 store=0 shell=1")
        self.assertSame(other.execute("state"), "core=0 store=0 shell=0")

    def test_the_runtime_is_a_clone(self):
        console = busy_console()
        runtime = console.runtime()
        self.assertIs(runtime.__class__, Runtime)
        runtime.finish("x")
        runtime.session_limit = 8
        runtime.publish("store", [(1, 2)])
        self.assertSame(seen(console.runtime()), seen(busy_console().runtime()))
        self.assertTrue(console.runtime() == console.runtime())
        self.assertSame(len(console.runtime()), 8)

    def test_a_large_catalog(self):
        console = Console(large_catalog(2, 1))
        results = console.run(["goal ann ma 15", "plan", "run ann", "plan", "available", "steps", "state"])
        self.assertEqual(results[1], results[2])
        self.assertEqual(results[3], "-")
        self.assertEqual(len(results[5].split(" ")), 180)


if __name__ == "__main__":
    unittest.main()
