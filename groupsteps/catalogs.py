"""Catalogs: modules, the modules that they use, their versions, and the windows of these."""

from groupsteps.errors import InvalidName, InvalidRows, InvalidUses, InvalidWindows, NotRising, TooMany
from groupsteps.errors import UnknownModule, UnknownUse, UnknownVersion
from groupsteps.names import is_name, is_version
from groupsteps.windows import reaches, require_windows, rises

MOST_MODULES = 12
MOST_VERSIONS = 16
MOST_USES = 40


def can_use(module, value):
    """Whether the value can be the tuple of the modules that the module uses."""
    if not isinstance(value, tuple) or not all([is_name(name) for name in value]):
        return False
    return module not in value and len(set(value)) == len(value)


def require_uses(uses):
    if not isinstance(uses, dict) or len(uses) == 0:
        raise InvalidUses(None)
    if len(uses) > MOST_MODULES:
        raise TooMany("modules", MOST_MODULES)
    for module, names in uses.items():
        if not is_name(module):
            raise InvalidName(module)
        if not can_use(module, names):
            raise InvalidUses(module)
    for names in uses.values():
        for name in names:
            if name not in uses:
                raise UnknownModule(name)
    if sum([len(names) for names in uses.values()]) > MOST_USES:
        raise TooMany("uses", MOST_USES)


class Catalog:
    """Modules and their uses, fixed from the beginning, and the versions published so far."""

    def __init__(self, uses):
        require_uses(uses)
        self.names = list(uses)
        self.used_names = {name: uses[name] for name in uses}
        self.user_names = {name: [user for user in uses if name in uses[user]] for name in uses}
        # For each version, by its number: its tuple of windows, and whether it is available.
        self.published = {name: [] for name in uses}
        self.present = {name: [] for name in uses}
        self.events = []

    def is_module(self, value):
        # A value of another kind may be impossible to look up.
        return isinstance(value, str) and value in self.used_names

    def require_module(self, value):
        if not self.is_module(value):
            raise UnknownModule(value)

    def modules(self):
        return list(self.names)

    def uses(self, module):
        self.require_module(module)
        return list(self.used_names[module])

    def users(self, module):
        self.require_module(module)
        return list(self.user_names[module])

    def versions(self, module):
        self.require_module(module)
        return len(self.published[module])

    def require_rising(self, module, windows):
        if len(self.published[module]) == 0:
            return
        latest = self.published[module][-1]
        for used, first, second in zip(self.used_names[module], latest, windows):
            if not rises(first, second):
                raise NotRising(module, used)

    def publish(self, module, windows):
        self.require_module(module)
        if not isinstance(windows, list) or len(windows) != len(self.used_names[module]):
            raise InvalidWindows(None)
        require_windows(windows)
        self.require_rising(module, windows)
        number = len(self.published[module])
        if number >= MOST_VERSIONS:
            raise TooMany("versions", MOST_VERSIONS)
        self.published[module].append(tuple(windows))
        self.present[module].append(True)
        self.events.append(("publish", module, tuple(windows)))
        return number

    def window(self, user, used, version):
        self.require_module(user)
        if not isinstance(used, str) or used not in self.used_names[user]:
            raise UnknownUse(user, used)
        if not is_version(version) or version >= len(self.published[user]):
            raise UnknownVersion(user, version)
        return self.published[user][version][self.used_names[user].index(used)]

    def first_reaching(self, user, used, version):
        """The least version of a user whose window reaches a version of what it uses.

        Withdrawn versions count. If there is none, it is the number that the next version of
        the user would get.
        """
        place = self.used_names[user].index(used)
        for number, windows in enumerate(self.published[user]):
            if reaches(windows[place][1], version):
                return number
        return len(self.published[user])

    def withdraw(self, module, version):
        if not self.is_available(module, version):
            raise UnknownVersion(module, version)
        self.present[module][version] = False
        self.events.append(("withdraw", module, version))

    def is_available(self, module, version):
        self.require_module(module)
        if not is_version(version) or version >= len(self.present[module]):
            return False
        return self.present[module][version]

    def available(self, module):
        self.require_module(module)
        return [version for version, here in enumerate(self.present[module]) if here]

    def history(self):
        return list(self.events)

    def clone(self):
        other = Catalog(self.used_names)
        other.published = {name: list(self.published[name]) for name in self.names}
        other.present = {name: list(self.present[name]) for name in self.names}
        other.events = list(self.events)
        return other

    def __eq__(self, other):
        return (isinstance(other, Catalog) and self.names == other.names and self.used_names == other.used_names
                and self.published == other.published and self.present == other.present)

    def __len__(self):
        return len(self.names)

    def __repr__(self):
        numbers = [len(self.published[name]) for name in self.names]
        return f"Catalog(modules={self.names!r}, versions={numbers!r})"


def is_row(value):
    if not isinstance(value, tuple) or len(value) != 3:
        return False
    return isinstance(value[0], str) and isinstance(value[2], list)


def require_rows(rows):
    if not isinstance(rows, list):
        raise InvalidRows(None)
    seen = set()
    for position, row in enumerate(rows):
        if not is_row(row) or row[0] in seen:
            raise InvalidRows(position)
        seen.add(row[0])


def catalog_of(rows):
    require_rows(rows)
    catalog = Catalog({module: uses for module, uses, versions in rows})
    for module, uses, versions in rows:
        for windows in versions:
            catalog.publish(module, windows)
    return catalog
