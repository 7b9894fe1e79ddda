"""Runtimes: systems with sessions, and with versions that are published and withdrawn meanwhile."""

from groupsteps.errors import InUse, InvalidCount, InvalidName, NameTaken, TooMany, UnknownSession, UnknownVersion
from groupsteps.names import is_name, is_version
from groupsteps.plans import rows_between
from groupsteps.states import lower_state, upper_state
from groupsteps.steps import step_rows, steps_of
from groupsteps.systems import System


class Runtime(System):
    """A system whose catalog can change, and on whose states sessions run."""

    MOST_SESSIONS = 8
    KIND = "Runtime"

    def __init__(self, catalog, state=None):
        System.__init__(self, catalog, state)
        # The state of each session.
        self.held = {}
        self.most = Runtime.MOST_SESSIONS

    def begin(self, session):
        if not is_name(session):
            raise InvalidName(session)
        if session in self.held:
            raise NameTaken(session)
        if len(self.held) >= self.most:
            raise TooMany("sessions", self.most)
        self.held[session] = self.now
        self.told.append(("begin", session))

    def require_session(self, value):
        # A value of another kind may be impossible to look up.
        if not isinstance(value, str) or value not in self.held:
            raise UnknownSession(value)

    def finish(self, session):
        self.require_session(session)
        del self.held[session]
        self.told.append(("finish", session))

    def sessions(self):
        return sorted(list(self.held))

    def session_state(self, session):
        self.require_session(session)
        return dict(self.held[session])

    @property
    def session_limit(self):
        return self.most

    @session_limit.setter
    def session_limit(self, value):
        if not is_version(value) or value < 1 or value > Runtime.MOST_SESSIONS:
            raise InvalidCount(value)
        self.most = value
        self.told.append(("limit", value))

    def advance(self, session):
        self.require_session(session)
        before = self.held[session]
        self.held[session] = upper_state(self.own_catalog, before, self.now)
        self.told.append(("advance", session))
        return steps_of(rows_between(self.rows, before, self.held[session]))

    def talk(self, one, other):
        self.require_session(one)
        self.require_session(other)
        state = upper_state(self.own_catalog, self.held[one], self.held[other])
        self.held[one] = state
        self.held[other] = state
        self.told.append(("talk", one, other))
        return dict(state)

    def retreat(self, module, version):
        undone = super().retreat(module, version)
        self.held = {name: lower_state(self.own_catalog, self.held[name], self.now) for name in list(self.held)}
        return undone

    def running(self, module):
        self.own_catalog.require_module(module)
        versions = {state[module]: True for state in [self.now] + list(self.held.values())}
        return sorted(list(versions))

    def publish(self, module, windows):
        number = self.own_catalog.publish(module, windows)
        self.rows = step_rows(self.own_catalog)
        self.told.append(("publish", module, tuple(windows)))
        return number

    def withdraw(self, module, version):
        if not self.own_catalog.is_available(module, version):
            raise UnknownVersion(module, version)
        if version in self.running(module):
            raise InUse(module, version)
        self.own_catalog.withdraw(module, version)
        self.rows = step_rows(self.own_catalog)
        # A state from before might have the withdrawn version.
        self.past = []
        self.told.append(("withdraw", module, version))

    def adopt(self, other):
        super().adopt(other)
        self.held = dict(other.held)
        self.most = other.most

    def clone(self):
        other = Runtime(self.first_catalog, self.first_state)
        other.adopt(self)
        return other

    def __eq__(self, other):
        return (isinstance(other, Runtime) and self.own_catalog == other.own_catalog and self.now == other.now
                and self.pinned == other.pinned and self.wishes == other.wishes and self.held == other.held
                and self.most == other.most)

    def __repr__(self):
        return f"Runtime({self})"
