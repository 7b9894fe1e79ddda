"""The least and the greatest consistent state of a catalog, also with demands and with a bound."""

from groupsteps.demands import chain_to_failing, chain_to_version, failing_chain, greatest_settled, search
from groupsteps.errors import NoState, Unreachable
from groupsteps.names import require_version
from groupsteps.windows import reaches


def first_demands(catalog):
    """What every state meets."""
    return [(module, 0) for module in catalog.modules()]


def first_search(catalog):
    rows = search(catalog, first_demands(catalog))
    chain = chain_to_failing(rows)
    if chain is not None:
        raise NoState(chain)
    return rows


def least_of(catalog, demands):
    first_search(catalog)
    for demand in demands:
        chain = failing_chain(catalog, demand)
        if chain is not None:
            raise Unreachable(chain)
    return greatest_settled(catalog, search(catalog, first_demands(catalog) + demands))


def least_state(catalog):
    return least_of(catalog, [])


def fits(catalog, module, version, tops):
    """Whether the version can occur in a consistent state in which no module is above tops."""
    if not catalog.is_available(module, version):
        return False
    # The bounds of windows never fall, so no earlier version of a user reaches further up.
    for used in catalog.uses(module):
        if catalog.window(module, used, version)[0] > tops[used]:
            return False
    for user in catalog.users(module):
        if not reaches(catalog.window(user, module, tops[user])[1], version):
            return False
    return True


def greatest_fitting(catalog, module, tops):
    for version in range(tops[module], -1, -1):
        if fits(catalog, module, version, tops):
            return version
    return None


def lowered(catalog, tops):
    return {module: greatest_fitting(catalog, module, tops) for module in catalog.modules()}


def greatest_below(catalog, tops):
    """The greatest consistent state in which no module is above tops; there must be one."""
    high = tops
    state = lowered(catalog, high)
    while state != high:
        high = state
        state = lowered(catalog, high)
    return state


def latest_versions(catalog):
    return {module: catalog.available(module)[-1] for module in catalog.modules()}


def greatest_state(catalog):
    first_search(catalog)
    return greatest_below(catalog, latest_versions(catalog))


def require_module_version(catalog, module, version):
    catalog.require_module(module)
    require_version(version)


def least_with(catalog, module, version):
    require_module_version(catalog, module, version)
    return least_of(catalog, [(module, version)])


def require_bound(catalog, module, version):
    """Raises an error unless some consistent state has this version of the module or an earlier one."""
    require_module_version(catalog, module, version)
    chain = chain_to_version(first_search(catalog), module, version + 1)
    if chain is not None:
        raise Unreachable(chain)


def greatest_bounded(catalog, tops, module, version):
    """The greatest consistent state not above tops with this version or an earlier one; there must be one."""
    return greatest_below(catalog, {**tops, module: min(version, tops[module])})


def greatest_with(catalog, module, version):
    require_bound(catalog, module, version)
    return greatest_bounded(catalog, latest_versions(catalog), module, version)


def least_meeting(catalog, **versions):
    for module, version in versions.items():
        require_module_version(catalog, module, version)
    return least_of(catalog, list(versions.items()))


def why(catalog, module, version, other):
    # Both modules are checked before the version, which least_with checks.
    catalog.require_module(module)
    catalog.require_module(other)
    end = least_with(catalog, module, version)
    if end[other] == least_state(catalog)[other]:
        return None
    return chain_to_version(search(catalog, [(module, version)]), other, end[other])
