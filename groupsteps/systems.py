"""Systems: a running state with pins, and with operators that have goals."""

from groupsteps.demands import failing_chain
from groupsteps.errors import InvalidCount, InvalidName, InvalidState, NotAvailable, NothingToUndo, Pinned, TooMany
from groupsteps.errors import UnknownOperator
from groupsteps.least import greatest_bounded, least_of, least_state, least_with, require_bound, require_module_version
from groupsteps.names import is_name, is_version
from groupsteps.plans import done_rows, in_sequence, is_ready, ready_rows, require_demands, rows_between, switched
from groupsteps.states import in_order, require_consistent, upper_state
from groupsteps.steps import require_row, step_rows, steps_of


def state_words(state):
    return [f"{module}={state[module]}" for module in state]


class System:
    """A catalog, a consistent state of it that runs, and a record of all calls that changed something.

    The states and rows that a system holds are never changed in place, so clones share them.
    """

    MOST_OPERATORS = 8
    MOST_GOALS = 12
    # A Runtime is a System, too, but not equal to one.
    KIND = "System"

    def __init__(self, catalog, state=None):
        running = least_state(catalog) if state is None else state
        require_consistent(catalog, running)
        self.own_catalog = catalog.clone()
        self.now = in_order(catalog, running)
        self.first_catalog = catalog.clone()
        self.first_state = self.now
        # The rows of all steps of the present catalog.
        self.rows = step_rows(catalog)
        # The state before each call that can be undone.
        self.past = []
        self.pinned = {}
        # The goals of each operator that has some.
        self.wishes = {}
        self.told = []

    @classmethod
    def meeting(cls, catalog, *demands):
        require_demands(catalog, demands)
        return cls(catalog, least_of(catalog, list(demands)))

    @staticmethod
    def state_text(state):
        if not isinstance(state, dict):
            raise InvalidState(None)
        for module, version in state.items():
            if not is_name(module) or not is_version(version):
                raise InvalidState(module)
        return " ".join(state_words(state))

    @property
    def progress(self):
        return (len(done_rows(self.rows, self.now)), len(self.rows))

    def catalog(self):
        return self.own_catalog.clone()

    def state(self):
        return dict(self.now)

    def entries(self):
        return list(self.told)

    def start(self):
        return (self.first_catalog.clone(), dict(self.first_state))

    def first_forbidden(self, step):
        """The first module of a step that a pin forbids, None if no pin forbids the step."""
        for module, old, new in step:
            if module in self.pinned and new > self.pinned[module]:
                return module
        return None

    def available(self):
        steps = steps_of(ready_rows(self.rows, self.now))
        return [step for step in steps if self.first_forbidden(step) is None]

    def move(self, state, entry):
        """Runs another state, by a call that can be undone."""
        self.past.append(self.now)
        self.now = state
        self.told.append(entry)

    def perform(self, step):
        row = require_row(self.rows, step)
        if not is_ready(row, self.now):
            raise NotAvailable(step)
        module = self.first_forbidden(step)
        if module is not None:
            raise Pinned(module, self.pinned[module])
        self.move(switched(self.now, row[0]), ("perform", row[0]))

    def pin(self, module, version):
        require_module_version(self.own_catalog, module, version)
        self.pinned[module] = version
        self.told.append(("pin", module, version))

    def unpin(self, module):
        self.own_catalog.require_module(module)
        if module in self.pinned:
            del self.pinned[module]
        self.told.append(("unpin", module))

    def pins(self):
        return {module: self.pinned[module] for module in self.now if module in self.pinned}

    def add_goal(self, operator, module, version):
        if not is_name(operator):
            raise InvalidName(operator)
        least_with(self.own_catalog, module, version)
        before = self.wishes.get(operator, [])
        if len(before) == 0 and len(self.wishes) >= System.MOST_OPERATORS:
            raise TooMany("operators", System.MOST_OPERATORS)
        if len(before) >= System.MOST_GOALS:
            raise TooMany("goals", System.MOST_GOALS)
        self.wishes[operator] = [*before, (module, version)]
        self.told.append(("goal", operator, module, version))

    def require_operator(self, value):
        # A value of another kind may be impossible to look up.
        if not isinstance(value, str) or value not in self.wishes:
            raise UnknownOperator(value)

    def drop_goals(self, operator):
        self.require_operator(operator)
        del self.wishes[operator]
        self.told.append(("drop", operator))

    def operators(self):
        return sorted(list(self.wishes))

    def goals(self, operator):
        self.require_operator(operator)
        return list(self.wishes[operator])

    def can_be_met(self, goal):
        return failing_chain(self.own_catalog, goal) is None

    def needed(self, goals):
        """The rows of the needed steps of goals each of which some consistent state meets."""
        target = upper_state(self.own_catalog, self.now, least_of(self.own_catalog, goals))
        return rows_between(self.rows, self.now, target)

    def is_blocked(self, goal):
        if not self.can_be_met(goal):
            return True
        steps = steps_of(self.needed([goal]))
        return any([self.first_forbidden(step) is not None for step in steps])

    def blocked(self, operator):
        return [goal for goal in self.goals(operator) if self.is_blocked(goal)]

    def plan(self, *, operator=None):
        names = self.operators() if operator is None else [operator]
        goals = [goal for name in names for goal in self.goals(name) if self.can_be_met(goal)]
        return in_sequence(self.needed(goals), self.now)

    def run(self, operator):
        goals = [goal for goal in self.goals(operator) if not self.is_blocked(goal)]
        steps = in_sequence(self.needed(goals), self.now)
        state = self.now
        for step in steps:
            state = switched(state, step)
        self.move(state, ("run", operator))
        return steps

    def retreat(self, module, version):
        require_bound(self.own_catalog, module, version)
        before = self.now
        self.move(greatest_bounded(self.own_catalog, before, module, version), ("retreat", module, version))
        return steps_of(rows_between(self.rows, self.now, before))

    def undo(self, *, count=1):
        if not is_version(count) or count == 0:
            raise InvalidCount(count)
        if count > len(self.past):
            raise NothingToUndo("fewer calls can be taken back")
        self.now = self.past[-count]
        self.past = self.past[:-count]
        self.told.append(("undo", count))

    def adopt(self, other):
        """Goes on as the other system, with its entries and its calls to undo; the starts must be equal."""
        self.own_catalog = other.own_catalog.clone()
        self.now = other.now
        self.rows = other.rows
        self.past = list(other.past)
        self.pinned = dict(other.pinned)
        self.wishes = dict(other.wishes)
        self.told = list(other.told)

    def clone(self):
        other = System(self.first_catalog, self.first_state)
        other.adopt(self)
        return other

    def __eq__(self, other):
        return (isinstance(other, System) and self.KIND == other.KIND and self.own_catalog == other.own_catalog
                and self.now == other.now and self.pinned == other.pinned and self.wishes == other.wishes)

    def __len__(self):
        return len(self.told)

    def __str__(self):
        return " ".join(state_words(self.now))

    def __repr__(self):
        return f"System({self})"
