"""Demands: tuples (module, version), what follows from them, and chains of them."""

from groupsteps.errors import CannotMeet, InvalidDemand, Unreachable
from groupsteps.names import is_version


def is_demand(catalog, value):
    if not isinstance(value, tuple) or len(value) != 2:
        return False
    return catalog.is_module(value[0]) and is_version(value[1])


def require_demand(catalog, value):
    if not is_demand(catalog, value):
        raise InvalidDemand(value)


def least_available(catalog, module, version):
    """The least available version that is not less than this one, None if there is none."""
    for number in catalog.available(module):
        if number >= version:
            return number
    return None


def settled(catalog, demand):
    require_demand(catalog, demand)
    module, version = demand
    return least_available(catalog, module, version)


def demands_of(catalog, module, version):
    """What follows from a demand with this module and this settled version."""
    demands = [(used, catalog.window(module, used, version)[0]) for used in catalog.uses(module)]
    demands += [(user, catalog.first_reaching(user, module, version)) for user in catalog.users(module)]
    found = []
    for demand in demands:
        if demand[1] > 0 and demand not in found:
            found.append(demand)
    return found


def following(catalog, demand):
    reached = settled(catalog, demand)
    module, version = demand
    if reached is None:
        raise CannotMeet(module, version)
    return demands_of(catalog, module, reached)


def follows(catalog, first, second):
    return settled(catalog, first) is not None and second in following(catalog, first)


def is_chain(catalog, value):
    if not isinstance(value, list) or len(value) == 0:
        return False
    if not all([is_demand(catalog, item) for item in value]):
        return False
    return all([follows(catalog, first, second) for first, second in zip(value, value[1:])])


def search(catalog, demands):
    """What chains from these demands lead to, the shortest chains first.

    Each row is a demand, its settled version, and the place of the row of the demand before
    it. The same follows from all demands of a module that have the same settled version, so
    only the first one that is found has a row.
    """
    rows = [((module, version), least_available(catalog, module, version), None) for module, version in demands]
    seen = {(demand[0], reached) for demand, reached, before in rows}
    place = 0
    while place < len(rows):
        demand, reached, before = rows[place]
        after = [] if reached is None else demands_of(catalog, demand[0], reached)
        for module, version in after:
            number = least_available(catalog, module, version)
            if (module, number) not in seen:
                seen.add((module, number))
                rows.append(((module, version), number, place))
        place += 1
    return rows


def chain_to(rows, place):
    chain = []
    while place is not None:
        demand, reached, before = rows[place]
        chain.append(demand)
        place = before
    return chain[::-1]


def chain_to_failing(rows):
    """The shortest chain of a search to a demand that cannot be met, None if there is none."""
    for place, (demand, reached, before) in enumerate(rows):
        if reached is None:
            return chain_to(rows, place)
    return None


def chain_to_version(rows, module, version):
    """The shortest chain of a search, all demands of which can be met, to this version or a later one."""
    for place, (demand, reached, before) in enumerate(rows):
        if demand[0] == module and reached >= version:
            return chain_to(rows, place)
    return None


def greatest_settled(catalog, rows):
    """The greatest settled version of each module of a search, all demands of which can be met."""
    greatest = {}
    for (module, version), reached, before in rows:
        greatest[module] = max(reached, greatest.get(module, 0))
    return {module: greatest[module] for module in catalog.modules() if module in greatest}


def failing_chain(catalog, demand):
    require_demand(catalog, demand)
    return chain_to_failing(search(catalog, [demand]))


def demanded(catalog, demand):
    require_demand(catalog, demand)
    rows = search(catalog, [demand])
    chain = chain_to_failing(rows)
    if chain is not None:
        raise Unreachable(chain)
    return greatest_settled(catalog, rows)
