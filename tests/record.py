"""A record of what a system or a runtime has to be, kept by the tests by lists of all states alone."""

import re

from groupsteps import errors
from tests.brute import Brute, lower, upper
from tests.small import fewest, own_is_chain, own_settled

# The items of each entry that are modules, versions and the like, for arguments at random.
CALLS = {
    "perform": ("step",), "run": ("operator",), "retreat": ("module", "version"), "undo": ("count",),
    "pin": ("module", "version"), "unpin": ("module",), "goal": ("operator", "module", "version"),
    "drop": ("operator",),
}
RUNTIME_CALLS = {
    **CALLS, "begin": ("session",), "finish": ("session",), "advance": ("session",), "talk": ("session", "session"),
    "publish": ("module", "windows"), "withdraw": ("module", "version"), "limit": ("count",),
}


# How often each call is made in sequences at random; one time is enough for the others.
OFTEN = {"perform": 8, "run": 3, "retreat": 3, "undo": 2, "unpin": 2, "goal": 4, "begin": 3, "advance": 2, "talk": 3,
         "publish": 2, "withdraw": 4}


class Refusal(Exception):
    def __init__(self, name, **attributes):
        Exception.__init__(self, name, attributes)
        self.name = name
        self.attributes = attributes


def is_int(value):
    return isinstance(value, int) and not isinstance(value, bool)


def is_word(value):
    return isinstance(value, str) and re.fullmatch("[a-z]{1,8}", value) is not None


class Record:
    """What the document says of a system; every method is named as its entry."""

    def __init__(self, catalog, state=None, runtime=False):
        self.catalog = catalog.clone()
        self.brute = Brute(catalog)
        self.state = {name: (state or self.brute.least)[name] for name in catalog.modules()}
        self.begun = (catalog.clone(), dict(self.state))
        self.runtime = runtime
        self.pins, self.goals, self.entries, self.past = {}, {}, [], []
        self.sessions, self.most = {}, 8

    def call(self, entry):
        """The result of the call that makes this entry, a Refusal if it is refused."""
        result = getattr(self, "do_" + entry[0])(*entry[1:])
        made = [tuple(item) if isinstance(item, list) else item for item in entry]
        self.entries.append(tuple(made))
        return result

    def known(self, module):
        if not isinstance(module, str) or module not in self.state:
            raise Refusal("UnknownModule", value=module)

    def known_version(self, module, version):
        self.known(module)
        if not is_int(version) or version < 0:
            raise Refusal("InvalidVersion", value=version)

    def known_operator(self, operator):
        if not isinstance(operator, str) or operator not in self.goals:
            raise Refusal("UnknownOperator", value=operator)

    def known_session(self, session):
        if not isinstance(session, str) or session not in self.sessions:
            raise Refusal("UnknownSession", value=session)

    def is_reachable(self, goal):
        return self.brute.least_with([goal]) is not None

    def forbidden(self, step):
        return [name for name, old, new in step if name in self.pins and new > self.pins[name]]

    def is_blocked(self, goal):
        if not self.is_reachable(goal):
            return True
        return any(self.forbidden(step) for step in self.brute.plan(self.state, [goal]))

    def blocked(self, operator):
        return [goal for goal in self.goals[operator] if self.is_blocked(goal)]

    def plan(self, operators):
        goals = [goal for operator in sorted(operators) for goal in self.goals[operator] if self.is_reachable(goal)]
        return self.brute.plan(self.state, goals)

    def move(self, state):
        self.past.append(self.state)
        self.state = state

    def do_perform(self, step):
        # By their texts, since True is equal to 1.
        if repr(step) not in [repr(each) for each in self.brute.steps]:
            raise Refusal("InvalidStep", value=step)
        if step not in self.brute.available(self.state):
            raise Refusal("NotAvailable", step=step)
        for module in self.forbidden(step):
            raise Refusal("Pinned", module=module, version=self.pins[module])
        self.move(self.brute.after(self.state, step))

    def do_run(self, operator):
        self.known_operator(operator)
        goals = [goal for goal in self.goals[operator] if not self.is_blocked(goal)]
        plan = self.brute.plan(self.state, goals)
        self.move(self.brute.target(self.state, goals))
        return plan

    def do_retreat(self, module, version):
        self.known_version(module, version)
        if self.brute.greatest_with(module, version) is None:
            raise Refusal("Unreachable", above=(module, version))
        under = [state for state in self.brute.states if lower(state, self.state) == state and state[module] <= version]
        before = self.state
        self.move(next(state for state in under if all(lower(state, other) == other for other in under)))
        self.sessions = {name: lower(state, self.state) for name, state in self.sessions.items()}
        return [step for step in self.brute.done(before) if step not in self.brute.done(self.state)]

    def do_undo(self, count):
        if not is_int(count) or count < 1:
            raise Refusal("InvalidCount", value=count)
        if count > len(self.past):
            raise Refusal("NothingToUndo")
        for number in range(count):
            self.state = self.past.pop()

    def do_pin(self, module, version):
        self.known_version(module, version)
        self.pins[module] = version

    def do_unpin(self, module):
        self.known(module)
        self.pins.pop(module, None)

    def do_goal(self, operator, module, version):
        if not is_word(operator):
            raise Refusal("InvalidName", value=operator)
        self.known_version(module, version)
        if not self.is_reachable((module, version)):
            raise Refusal("Unreachable", demand=(module, version))
        if operator not in self.goals and len(self.goals) == 8:
            raise Refusal("TooMany", kind="operators", limit=8)
        if len(self.goals.get(operator, [])) == 12:
            raise Refusal("TooMany", kind="goals", limit=12)
        self.goals.setdefault(operator, []).append((module, version))

    def do_drop(self, operator):
        self.known_operator(operator)
        del self.goals[operator]

    def do_begin(self, session):
        if not is_word(session):
            raise Refusal("InvalidName", value=session)
        if session in self.sessions:
            raise Refusal("NameTaken", value=session)
        if len(self.sessions) >= self.most:
            raise Refusal("TooMany", kind="sessions", limit=self.most)
        self.sessions[session] = self.state

    def do_finish(self, session):
        self.known_session(session)
        del self.sessions[session]

    def do_advance(self, session):
        self.known_session(session)
        before = self.sessions[session]
        self.sessions[session] = upper(before, self.state)
        return self.brute.between(before, self.sessions[session])

    def do_talk(self, one, other):
        self.known_session(one)
        self.known_session(other)
        self.sessions[one] = self.sessions[other] = upper(self.sessions[one], self.sessions[other])
        return self.sessions[one]

    def do_limit(self, count):
        if not is_int(count) or not 1 <= count <= 8:
            raise Refusal("InvalidCount", value=count)
        self.most = count

    def do_publish(self, module, windows):
        # What a catalog refuses is tested with the catalogs.
        try:
            number = self.catalog.publish(module, windows)
        except (errors.GroupError, errors.Missing, errors.Refused, errors.LimitReached) as error:
            raise Refusal(error.__class__.__name__, **vars(error))
        self.brute = Brute(self.catalog)
        return number

    def do_withdraw(self, module, version):
        self.known(module)
        if not is_int(version) or version not in self.catalog.available(module):
            raise Refusal("UnknownVersion", module=module, version=version)
        if version in self.running(module):
            raise Refusal("InUse", module=module, version=version)
        self.catalog.withdraw(module, version)
        self.brute = Brute(self.catalog)
        self.past = []

    def running(self, module):
        return sorted({state[module] for state in [self.state, *self.sessions.values()]})

    def text(self):
        return " ".join(f"{name}={self.state[name]}" for name in self.state)

    def seen(self):
        """All that can be asked, in the form of seen(system)."""
        brute, state = self.brute, self.state
        told = {
            "state": state, "text": self.text(), "name": f"{'Runtime' if self.runtime else 'System'}({self.text()})",
            "progress": (len(brute.done(state)), len(brute.steps)),
            "available": [step for step in brute.available(state) if not self.forbidden(step)],
            "pins": {name: self.pins[name] for name in state if name in self.pins},
            "operators": sorted(self.goals), "plan": self.plan(self.goals),
            "goals": [self.goals[operator] for operator in sorted(self.goals)],
            "blocked": [self.blocked(operator) for operator in sorted(self.goals)],
            "plans": [self.plan([operator]) for operator in sorted(self.goals)],
            "entries": self.entries, "many": len(self.entries), "past": self.past[::-1],
            "begun": self.begun, "catalog": self.catalog, "history": self.catalog.history(),
        }
        if self.runtime:
            told["sessions"] = sorted(self.sessions)
            told["states"] = [self.sessions[session] for session in sorted(self.sessions)]
            told["most"] = self.most
            told["running"] = [self.running(module) for module in state]
        return told


def call(system, entry):
    """The call that makes this entry."""
    word, *items = entry
    if word == "undo":
        return system.undo(count=items[0])
    if word == "limit":
        system.session_limit = items[0]
        return None
    method = {"goal": "add_goal", "drop": "drop_goals"}.get(word, word)
    return getattr(system, method)(*items)


def undone_states(system):
    """The states that run if all calls are undone, one after another; the system stays as it is."""
    other, found = system.clone(), []
    while True:
        try:
            other.undo()
        except errors.NothingToUndo:
            return found
        found.append(other.state())


def seen(system):
    operators = system.operators()
    told = {
        "state": system.state(), "text": str(system), "name": repr(system), "progress": system.progress,
        "available": system.available(), "pins": system.pins(), "operators": operators, "plan": system.plan(),
        "goals": [system.goals(operator) for operator in operators],
        "blocked": [system.blocked(operator) for operator in operators],
        "plans": [system.plan(operator=operator) for operator in operators],
        "entries": system.entries(), "many": len(system), "past": undone_states(system),
        "begun": system.start(), "catalog": system.catalog(), "history": system.catalog().history(),
    }
    if hasattr(system, "sessions"):
        told["sessions"] = system.sessions()
        told["states"] = [system.session_state(session) for session in system.sessions()]
        told["most"] = system.session_limit
        told["running"] = [system.running(module) for module in system.state()]
    return told


def has_fewest(catalog, chain, starts, wanted):
    return (own_is_chain(catalog, chain) and chain[0] in starts and wanted(chain[-1])
            and len(chain) == fewest(catalog, starts, wanted))


def assert_refusal(case, catalog, refusal, error):
    """The error is the one that was to be, with its attributes; of chains any shortest one is right."""
    case.assertEqual(error.__class__.__name__, refusal.name, repr(vars(error)))
    if "above" in refusal.attributes:
        module, version = refusal.attributes["above"]
        starts = [(name, 0) for name in catalog.modules()]
        case.assertTrue(has_fewest(catalog, error.chain, starts, lambda demand: demand[0] == module and (
            own_settled(catalog, demand) or 0) > version))
    elif "demand" in refusal.attributes:
        demand = refusal.attributes["demand"]
        case.assertTrue(has_fewest(catalog, error.chain, [demand], lambda each: own_settled(catalog, each) is None))
    else:
        case.assertEqual(repr(vars(error)), repr(refusal.attributes))


def compare_call(case, system, record, entry):
    """Makes the same call on both; whether it was done."""
    try:
        expected = record.call(entry)
    except Refusal as refusal:
        before = seen(system)
        assert_refusal(case, record.catalog, refusal, case.caught(call, system, entry))
        case.assertSame(seen(system), before)
        return False
    case.assertSame(call(system, entry), expected)
    case.assertSame(seen(system), record.seen())
    return True


class Arguments:
    """Arguments at random, most of them right."""

    def __init__(self, numbers, record):
        self.numbers = numbers
        self.record = record

    def one_of(self, values):
        return values[self.numbers.below(len(values))]

    def module(self):
        if self.numbers.below(15) == 0:
            return self.one_of(["nobody", "", None, ["core"], 0])
        return self.one_of(self.record.catalog.modules())

    def version(self):
        if self.numbers.below(15) == 0:
            return self.one_of([None, True, False, -1, "1", [1], 10 ** 59])
        return self.numbers.below(5)

    def count(self):
        return self.one_of([1, 1, 1, 1, 2, 2, 3, 4, 8, 9, 0, -1, None, True, False, "1", 10 ** 59])

    def operator(self):
        if self.record.goals and self.numbers.below(2):
            return self.one_of(sorted(self.record.goals))
        return self.one_of([*["ann", "bob", "cat", "ann"] * 4, *"defghi", "", "Ann", None, ["ann"], 1])

    def session(self):
        if self.record.sessions and self.numbers.below(2):
            return self.one_of(sorted(self.record.sessions))
        return self.one_of([*["x", "y", "z"] * 3, *"abcdefg", "", "X", None, ["x"], 1])

    def windows(self):
        module = self.one_of(self.record.catalog.modules())
        return [self.one_of([(0, 1), (1, 2), (0, None), (2, None), (3, 4), (2, 5)] + [None] * (self.numbers.below(9) == 0))
                for used in self.record.catalog.uses(module)]

    def rising_windows(self, module):
        """Windows with which a version can be published."""
        catalog = self.record.catalog
        found = []
        for used in catalog.uses(module):
            low, high = catalog.window(module, used, catalog.versions(module) - 1)
            low += self.numbers.below(2)
            found.append((low, None if high is None else max(low, high + self.numbers.below(2))))
        return found

    def step(self):
        brute, state = self.record.brute, self.record.state
        chosen = self.numbers.below(12)
        if chosen == 0:
            return self.one_of([(), None, (("core", 0, True),), [("core", 0, 1)], (("nobody", 0, 1),), "core:0:1"])
        if chosen < 3 and brute.steps:
            return self.one_of(brute.steps)
        if brute.available(state):
            return self.one_of(brute.available(state))
        return (("core", 0, 1),)

    def entry(self, calls):
        word = self.one_of([each for each in calls for number in range(OFTEN.get(each, 1))])
        if word == "pin" and self.numbers.below(2):
            # Not too many pins that stop everything.
            return (word, self.module(), 3 + self.numbers.below(3))
        if word == "publish" and self.numbers.below(3):
            module = self.one_of(self.record.catalog.modules())
            return (word, module, self.rising_windows(module))
        return (word, *[getattr(self, kind)() for kind in calls[word]])


def drive(case, system, record, numbers, calls, count):
    """Makes so many calls at random on both; the entries and whether each was done."""
    arguments = Arguments(numbers, record)
    made = []
    for number in range(count):
        entry = arguments.entry(calls)
        made.append((entry, compare_call(case, system, record, entry)))
    return made
