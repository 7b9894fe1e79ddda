"""Plans: which steps are done and available in a state, and which ones goals need."""

from groupsteps.demands import is_demand
from groupsteps.errors import InvalidGoals, InvalidSteps, MissingNeed, NotAvailable, NotBelow
from groupsteps.least import least_of, least_state
from groupsteps.states import in_order, is_under, require_consistent, require_two, upper_state
from groupsteps.steps import needed_rows, row_of, step_rows, steps_of


def require_demands(catalog, demands):
    for position, demand in enumerate(demands):
        if not is_demand(catalog, demand):
            raise InvalidGoals(position)


def require_goals(catalog, goals):
    if not isinstance(goals, list):
        raise InvalidGoals(None)
    require_demands(catalog, goals)


def is_ready(row, state):
    """Whether the step of a row is available in a consistent state."""
    step, start, end = row
    # The start is the least state in which all is done that the step needs.
    return is_under(start, state) and not is_under(end, state)


def done_rows(rows, state):
    return [row for row in rows if is_under(row[2], state)]


def ready_rows(rows, state):
    return [row for row in rows if is_ready(row, state)]


def rows_between(rows, one, other):
    """The rows of the steps that are done in the state other and not in the state one."""
    return [row for row in done_rows(rows, other) if not is_under(row[2], one)]


def switched(state, step):
    """The state after a step has been performed."""
    after = {module: new for module, old, new in step}
    return {module: after.get(module, state[module]) for module in state}


def done_steps(catalog, state):
    require_consistent(catalog, state)
    return steps_of(done_rows(step_rows(catalog), state))


def available_steps(catalog, state):
    require_consistent(catalog, state)
    return steps_of(ready_rows(step_rows(catalog), state))


def difference_rows(catalog, one, other):
    require_two(catalog, one, other)
    for module in catalog.modules():
        if one[module] > other[module]:
            raise NotBelow(module)
    return rows_between(step_rows(catalog), one, other)


def difference(catalog, one, other):
    return steps_of(difference_rows(catalog, one, other))


def require_steps(rows, value, once):
    """Raises an error unless the value is a list of steps, if once is True each of them once."""
    if not isinstance(value, list):
        raise InvalidSteps(None)
    seen = set()
    for position, item in enumerate(value):
        if row_of(rows, item) is None or (once and item in seen):
            raise InvalidSteps(position)
        seen.add(item)


def state_with(catalog, steps):
    rows = step_rows(catalog)
    require_steps(rows, steps, True)
    state = least_state(catalog)
    for step in steps:
        row = row_of(rows, step)
        if not all([other in steps for other in steps_of(needed_rows(rows, row))]):
            raise MissingNeed(step)
        state = {module: max(state[module], row[2][module]) for module in state}
    return state


def target_state(catalog, state, goals):
    require_consistent(catalog, state)
    require_goals(catalog, goals)
    return upper_state(catalog, state, least_of(catalog, goals))


def rows_for(catalog, state, goals):
    """The rows of the needed steps."""
    target = target_state(catalog, state, goals)
    return rows_between(step_rows(catalog), state, target)


def first_ready(rows, state):
    for row in rows:
        if is_ready(row, state):
            return row
    return None


def in_sequence(rows, state):
    """The steps of needed rows, each one the first that is available after those before it."""
    present = state
    found = []
    row = first_ready(rows, present)
    while row is not None:
        found.append(row[0])
        present = switched(present, row[0])
        row = first_ready(rows, present)
    return found


def plan_for(catalog, state, goals):
    return in_sequence(rows_for(catalog, state, goals), state)


def walk(catalog, state, goals):
    steps = plan_for(catalog, state, goals)
    present = in_order(catalog, state)
    for step in steps:
        present = switched(present, step)
        yield (step, dict(present))


def ready_places(rows, state, way):
    """The places of the rows that are available after those of a way, a list of places."""
    present = state
    for place in way:
        present = switched(present, rows[place][0])
    return [place for place, row in enumerate(rows) if is_ready(row, present)]


def completed(rows, state, way):
    """The first way to all rows that begins with this one."""
    full = list(way)
    while len(full) < len(rows):
        full.append(ready_places(rows, state, full)[0])
    return full


def next_way(rows, state, way):
    """The way to all rows that comes after this one, None if it is the last."""
    for size in range(len(way) - 1, -1, -1):
        later = [place for place in ready_places(rows, state, way[:size]) if place > way[size]]
        if len(later) > 0:
            return completed(rows, state, [*way[:size], later[0]])
    return None


def ways(catalog, one, other):
    rows = difference_rows(catalog, one, other)
    # A search of its own instead of calls within calls: a way can have very many steps.
    way = completed(rows, one, [])
    while way is not None:
        yield [rows[place][0] for place in way]
        way = next_way(rows, one, way)


def is_plan(catalog, state, value):
    require_consistent(catalog, state)
    if not isinstance(value, list):
        return False
    rows = step_rows(catalog)
    present = state
    for item in value:
        row = row_of(rows, item)
        if row is None or not is_ready(row, present):
            return False
        present = switched(present, row[0])
    return True


def state_after(catalog, state, steps):
    require_consistent(catalog, state)
    rows = step_rows(catalog)
    require_steps(rows, steps, False)
    present = in_order(catalog, state)
    for step in steps:
        if not is_ready(row_of(rows, step), present):
            raise NotAvailable(step)
        present = switched(present, step)
    return present


def rows_in_rounds(rows, state):
    """Needed rows in rounds, each with all that are available after the rounds before it."""
    present = state
    found = []
    ready = ready_rows(rows, present)
    while len(ready) > 0:
        found.append(ready)
        for row in ready:
            present = switched(present, row[0])
        ready = ready_rows(rows, present)
    return found


def rounds(catalog, state, goals):
    return [steps_of(ready) for ready in rows_in_rounds(rows_for(catalog, state, goals), state)]


def longest_sequence(catalog, state, goals):
    found = []
    for ready in rows_in_rounds(rows_for(catalog, state, goals), state)[::-1]:
        # A step that was not available one round earlier needs a step of that round.
        needed = ready if len(found) == 0 else needed_rows(ready, found[-1])
        found.append(needed[0])
    return steps_of(found[::-1])
