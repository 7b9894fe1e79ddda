"""States: dicts from all modules of a catalog to an available version of each one."""

from groupsteps.errors import InvalidState, NotConsistent
from groupsteps.windows import contains


def first_wrong(catalog, versions):
    """The first module of which the dict has no available version, None if there is none."""
    for module in catalog.modules():
        if module not in versions or not catalog.is_available(module, versions[module]):
            return module
    return None


def is_state(catalog, value):
    if not isinstance(value, dict):
        return False
    return first_wrong(catalog, value) is None and len(value) == len(catalog)


def require_state(catalog, value):
    if not isinstance(value, dict):
        raise InvalidState(None)
    # If no module is wrong, there are other keys: the error has None for these, too.
    if not is_state(catalog, value):
        raise InvalidState(first_wrong(catalog, value))


def conflicts(catalog, state):
    require_state(catalog, state)
    found = []
    for user in catalog.modules():
        for used in catalog.uses(user):
            if not contains(catalog.window(user, used, state[user]), state[used]):
                found.append((user, used))
    return found


def first_conflict(catalog, state):
    found = conflicts(catalog, state)
    if len(found) == 0:
        return None
    return found[0]


def require_consistent(catalog, state):
    conflict = first_conflict(catalog, state)
    if conflict is not None:
        user, used = conflict
        raise NotConsistent(user, used)


def is_under(one, other):
    """Whether a state is below another one, both of which are known to be states."""
    return all([one[module] <= other[module] for module in one])


def is_below(catalog, one, other):
    require_state(catalog, one)
    require_state(catalog, other)
    return is_under(one, other)


def in_order(catalog, state):
    return {module: state[module] for module in catalog.modules()}


def require_two(catalog, one, other):
    # Both must be states before one of them is asked for conflicts.
    require_state(catalog, one)
    require_state(catalog, other)
    require_consistent(catalog, one)
    require_consistent(catalog, other)


def lower_state(catalog, one, other):
    require_two(catalog, one, other)
    return {module: min(one[module], other[module]) for module in catalog.modules()}


def upper_state(catalog, one, other):
    require_two(catalog, one, other)
    return {module: max(one[module], other[module]) for module in catalog.modules()}
