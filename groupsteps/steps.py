"""Steps: switches of some modules at once that cannot be split, and what each of them needs."""

from groupsteps.demands import chain_to_version, demands_of, least_available, search
from groupsteps.errors import InvalidStep, NoState, NoStep, UnknownModule
from groupsteps.least import least_state, least_with, require_module_version
from groupsteps.names import is_name, is_version
from groupsteps.states import is_under


def has_item_form(value):
    if not isinstance(value, tuple) or len(value) != 3:
        return False
    name, old, new = value
    return is_name(name) and is_version(old) and is_version(new) and old < new


def has_step_form(value):
    """Whether the value is a tuple such as a step is, of whatever catalog."""
    if not isinstance(value, tuple) or len(value) == 0:
        return False
    if not all([has_item_form(item) for item in value]):
        return False
    return len({name for name, old, new in value}) == len(value)


def settled_table(catalog):
    """For each available version of each module, what follows from it, with settled versions."""
    table = {}
    for module in catalog.modules():
        for version in catalog.available(module):
            after = demands_of(catalog, module, version)
            table[(module, version)] = [(name, least_available(catalog, name, number)) for name, number in after]
    return table


def raised(table, state, module, version):
    """The least consistent state above a consistent one that has this version, None if there is none."""
    high = {name: state[name] for name in state}
    high[module] = version
    waiting = [module]
    while len(waiting) > 0:
        name = waiting.pop()
        for other, number in table[(name, high[name])]:
            if number is None:
                return None
            if number > high[other]:
                high[other] = number
                waiting.append(other)
    return high


def switches_of(catalog, table, least, module):
    """The switches of a module: a dict from its new version to its old one and the end of the step."""
    switches = {}
    end = least
    for version in catalog.available(module):
        if version > end[module]:
            old = end[module]
            # The end of a later version is above that of an earlier one, so it is found from there.
            end = raised(table, end, module, version)
            if end is None:
                return switches
            switches[end[module]] = (old, end)
    return switches


def step_with_end(switches, end):
    """The step to this end: all modules that have a switch to the very same state."""
    items = []
    for module in end:
        new = end[module]
        if new in switches[module]:
            old, reached = switches[module][new]
            if reached == end:
                items.append((module, old, new))
    return tuple(items)


def state_before(step, end):
    before = {module: old for module, old, new in step}
    return {module: before.get(module, end[module]) for module in end}


def step_rows(catalog):
    """All steps in order, each in a row (step, start, end)."""
    least = least_state(catalog)
    table = settled_table(catalog)
    switches = {module: switches_of(catalog, table, least, module) for module in catalog.modules()}
    rows = []
    for module in catalog.modules():
        for old, end in switches[module].values():
            step = step_with_end(switches, end)
            # Each other module of the step has a switch to the same end.
            if step[0][0] == module:
                rows.append((step, state_before(step, end), end))
    return rows


def steps_of(rows):
    return [step for step, start, end in rows]


def row_of(rows, value):
    """The row of a step, None for any value that is not a step."""
    if not has_step_form(value):
        return None
    for row in rows:
        if row[0] == value:
            return row
    return None


def require_row(rows, value):
    row = row_of(rows, value)
    if row is None:
        raise InvalidStep(value)
    return row


def needed_rows(rows, row):
    """The rows of the steps that the step of a row needs."""
    return [other for other in rows if other[0] != row[0] and is_under(other[2], row[2])]


def all_steps(catalog, *, module=None):
    if module is not None:
        catalog.require_module(module)
    steps = steps_of(step_rows(catalog))
    if module is None:
        return steps
    return [step for step in steps if module in [name for name, old, new in step]]


def is_step(catalog, value):
    try:
        rows = step_rows(catalog)
    except NoState:
        return False
    return row_of(rows, value) is not None


def step_to(catalog, module, version):
    require_module_version(catalog, module, version)
    if least_state(catalog)[module] >= version:
        raise NoStep(module, version)
    end = least_with(catalog, module, version)
    return [step for step, start, reached in step_rows(catalog) if reached == end][0]


def start_of(catalog, step):
    return require_row(step_rows(catalog), step)[1]


def end_of(catalog, step):
    return require_row(step_rows(catalog), step)[2]


def needs(catalog, step):
    rows = step_rows(catalog)
    return steps_of(needed_rows(rows, require_row(rows, step)))


def direct_needs(catalog, step):
    rows = step_rows(catalog)
    needed = needed_rows(rows, require_row(rows, step))
    between = [steps_of(needed_rows(rows, row)) for row in needed]
    return [other for other, start, end in needed if not any([other in steps for steps in between])]


def needed_by(catalog, step):
    rows = step_rows(catalog)
    row = require_row(rows, step)
    return [other for other, start, end in rows if other != row[0] and is_under(row[2], end)]


def why_together(catalog, step, one, other):
    row = require_row(step_rows(catalog), step)
    new_versions = {module: new for module, old, new in row[0]}
    for value in [one, other]:
        if not isinstance(value, str) or value not in new_versions:
            raise UnknownModule(value)
    there = chain_to_version(search(catalog, [(one, new_versions[one])]), other, new_versions[other])
    back = chain_to_version(search(catalog, [(other, new_versions[other])]), one, new_versions[one])
    return (there, back)
