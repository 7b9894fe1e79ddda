"""A console: commands and queries in words, for a runtime."""

from groupsteps.entries import parse_entry, parse_items, perform_entry
from groupsteps.errors import InvalidCommand, InvalidText
from groupsteps.least import least_with, why
from groupsteps.runtimes import Runtime
from groupsteps.steps import all_steps
from groupsteps.systems import System
from groupsteps.texts import format_step

# The kinds of the words of each query, behind its first one: one tuple for each choice.
QUERY_KINDS = {
    "state": ((), ("word",)),
    "available": ((),),
    "steps": ((),),
    "plan": ((), ("word",)),
    "blocked": (("word",),),
    "least": (("word", "number"),),
    "why": (("word", "number", "word"),),
    "running": (("word",),),
}


def joined(texts):
    if len(texts) == 0:
        return "-"
    return " ".join(texts)


def steps_text(steps):
    return joined([format_step(step) for step in steps])


def demands_text(demands):
    return joined([f"{module}:{version}" for module, version in demands])


def chain_text(chain):
    return "-" if chain is None else demands_text(chain)


def versions_text(versions):
    return joined([str(version) for version in versions])


def parse_query(words):
    """The items of a query behind its first word; raises InvalidText(1) if it is no query."""
    word, *rest = words
    for kinds in QUERY_KINDS[word]:
        if len(kinds) == len(rest):
            return parse_items(kinds, rest)
    raise InvalidText(1)


def answer(runtime, word, items):
    """The result of a query."""
    match word:
        case "state":
            state = runtime.state() if len(items) == 0 else runtime.session_state(*items)
            return System.state_text(state)
        case "available":
            return steps_text(runtime.available())
        case "steps":
            return steps_text(all_steps(runtime.catalog()))
        case "plan":
            return steps_text(runtime.plan() if len(items) == 0 else runtime.plan(operator=items[0]))
        case "blocked":
            return demands_text(runtime.blocked(*items))
        case "least":
            return System.state_text(least_with(runtime.catalog(), items[0], items[1]))
        case "why":
            return chain_text(why(runtime.catalog(), items[0], items[1], items[2]))
    return versions_text(runtime.running(*items))


def result_text(word, result):
    """What the method of an entry returned, as a string."""
    if result is None:
        return "ok"
    match word:
        case "talk":
            return System.state_text(result)
        case "publish":
            return str(result)
    return steps_text(result)


def execute_on(runtime, command):
    if not isinstance(command, str) or "\n" in command:
        raise InvalidCommand("no line of words")
    words = command.split(" ")
    is_query = words[0] in QUERY_KINDS
    try:
        parsed = parse_query(words) if is_query else parse_entry(words)
    except InvalidText:
        raise InvalidCommand("no command")
    if is_query:
        return answer(runtime, words[0], parsed)
    return result_text(words[0], perform_entry(runtime, parsed))


class Console:
    """A runtime, and a record of the lists of commands that were run on it."""

    def __init__(self, catalog, state=None):
        self.system = Runtime(catalog, state)
        self.notes = []

    def execute(self, command):
        return execute_on(self.system, command)

    def run(self, commands):
        if not isinstance(commands, list):
            raise InvalidCommand("no list of commands")
        # A clone runs them, so an error leaves the runtime as it is.
        trial = self.system.clone()
        results = []
        done = 0
        self.notes.append(("begin", len(commands)))
        try:
            for command in commands:
                results.append(execute_on(trial, command))
                done += 1
        finally:
            self.notes.append(("end", done))
        self.system = trial
        return results

    def log(self):
        return list(self.notes)

    def runtime(self):
        return self.system.clone()
