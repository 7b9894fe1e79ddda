"""Small catalogs, and a search through them that uses nothing but the queries of a catalog."""

from itertools import product

from groupsteps.catalogs import Catalog, catalog_of

MODULES = ["core", "store", "shell", "log"]


def doc_catalog():
    """The catalog of the document's examples."""
    return catalog_of([
        ("core", ("store",), [[(0, 0)], [(0, 1)], [(1, None)]]),
        ("store", ("core",), [[(0, 1)], [(1, 2)]]),
        ("shell", ("core",), [[(0, 1)], [(0, 2)], [(2, None)]]),
    ])


def line_catalog(count, versions):
    """Each module but the last one works with the very same version of the next one only."""
    names = ["m" + "abcdefghijkl"[place] for place in range(count)]
    rows = [(name, (after,), [[(version, version)] for version in range(versions)])
            for name, after in zip(names, names[1:])]
    return catalog_of([*rows, (names[-1], (), [[] for version in range(versions)])])


class Numbers:
    """The same numbers in every run and under every Python."""

    def __init__(self, seed):
        self.seed = seed * 2 + 1

    def below(self, limit):
        self.seed = (self.seed * 6364136223846793005 + 1442695040888963407) % (1 << 64)
        return (self.seed >> 33) % limit


def rising_windows(numbers, count, spread):
    """Windows that rise at random; a greater spread lets them contain more versions."""
    windows = []
    low, high = [0, 0, 0, 1][numbers.below(4)], numbers.below(spread)
    for number in range(count):
        if number:
            low += [0, 0, 1, 1, 2][numbers.below(5)]
        if high is not None:
            high = max(low, high + (numbers.below(3) if number else 0))
            if numbers.below(10) == 0:
                high = None
        windows.append((low, high))
    return windows


def random_catalog(numbers, most_modules=4, most_versions=4):
    names = MODULES[:1 + numbers.below(most_modules)]
    spread = 1 + numbers.below(4)
    uses = {}
    for name in names:
        others = [other for other in names if other != name and numbers.below(2) == 0]
        uses[name] = tuple(others[::-1] if numbers.below(2) else others)
    catalog = Catalog(uses)
    for name in names:
        # Few modules without any version: then there is no state at all.
        count = 1 + numbers.below(most_versions) if numbers.below(30) else 0
        columns = [rising_windows(numbers, count, spread) for used in uses[name]]
        for version in range(count):
            catalog.publish(name, [column[version] for column in columns])
    for name in names:
        for version in range(catalog.versions(name)):
            if numbers.below(8) == 0:
                catalog.withdraw(name, version)
    return catalog


def random_catalogs(count, seed=0, most_modules=4, most_versions=4):
    numbers = Numbers(seed)
    return [random_catalog(numbers, most_modules, most_versions) for number in range(count)]


def close_windows(numbers, count):
    """Rising windows that follow the versions closely, so that modules often switch together."""
    windows = []
    low = high = 0
    for number in range(count):
        low += [0, 0, 1, 1, 1][numbers.below(5)] if number else 0
        high = max(high, low + [0, 0, 1, 1, 2][numbers.below(5)])
        windows.append((low, high if number < 3 or numbers.below(4) else None))
        if windows[-1][1] is None:
            return [*windows, *[(low, None)] * (count - number - 1)]
    return windows


def close_catalog(numbers, most_modules=4, most_versions=4):
    """A catalog in which the versions 0 work together, before a few withdrawals."""
    names = MODULES[:2 + numbers.below(most_modules - 1)]
    uses = {name: tuple(other for other in names if other != name and numbers.below(5) < 2) for name in names}
    catalog = Catalog(uses)
    for name in names:
        columns = [close_windows(numbers, most_versions) for used in uses[name]]
        for version in range(2 + numbers.below(most_versions - 1)):
            catalog.publish(name, [column[version] for column in columns])
    for name in names:
        if numbers.below(5) == 0:
            catalog.withdraw(name, numbers.below(catalog.versions(name)))
    return catalog


def close_catalogs(count, seed=0, most_modules=4, most_versions=4):
    numbers = Numbers(seed)
    return [close_catalog(numbers, most_modules, most_versions) for number in range(count)]


def all_states(catalog):
    names = catalog.modules()
    return [dict(zip(names, row)) for row in product(*[catalog.available(name) for name in names])]


def works(window, version):
    return window[0] <= version and (window[1] is None or version <= window[1])


def own_conflicts(catalog, state):
    return [(user, used) for user in catalog.modules() for used in catalog.uses(user)
            if not works(catalog.window(user, used, state[user]), state[used])]


def consistent_states(catalog):
    return [state for state in all_states(catalog) if not own_conflicts(catalog, state)]


def below(one, other):
    return all(one[name] <= other[name] for name in one)


def own_settled(catalog, demand):
    return min([version for version in catalog.available(demand[0]) if version >= demand[1]], default=None)


def own_following(catalog, demand):
    module, version = demand[0], own_settled(catalog, demand)
    found = [(used, catalog.window(module, used, version)[0]) for used in catalog.uses(module)]
    for user in catalog.modules():
        if module in catalog.uses(user):
            highs = [catalog.window(user, module, number)[1] for number in range(catalog.versions(user))]
            working = [number for number, high in enumerate(highs) if high is None or high >= version]
            found.append((user, min([*working, len(highs)])))
    return [each for place, each in enumerate(found) if each[1] > 0 and each not in found[:place]]


def distances(catalog, starts):
    """For each demand that chains from the starts lead to, the fewest demands of such a chain."""
    found = {start: 1 for start in starts}
    newest = list(found)
    while newest:
        after = [each for demand in newest if own_settled(catalog, demand) is not None
                 for each in own_following(catalog, demand)]
        many = found[newest[0]] + 1
        newest = [each for each in dict.fromkeys(after) if each not in found]
        found.update({each: many for each in newest})
    return found


def fewest(catalog, starts, wanted):
    """The fewest demands of a chain from one of the starts to a demand that is wanted, None if there is none."""
    found = distances(catalog, starts)
    return min([found[demand] for demand in found if wanted(demand)], default=None)


def own_is_chain(catalog, chain):
    for first, second in zip(chain, chain[1:]):
        if own_settled(catalog, first) is None or second not in own_following(catalog, first):
            return False
    return isinstance(chain, list) and len(chain) > 0
