"""All errors of the package, in four families.

A class with attributes is created with them, by position or by name; the others are
created with a message. The attributes hold the very values that were given.
"""


class GroupError(ValueError):
    """An argument, or what it describes, is not what is required."""


class InvalidName(GroupError):
    """The value is not a name."""

    def __init__(self, value):
        self.value = value


class InvalidVersion(GroupError):
    """The value is not a version."""

    def __init__(self, value):
        self.value = value


class InvalidWindow(GroupError):
    """The value is not a window."""

    def __init__(self, value):
        self.value = value


class InvalidWindows(GroupError):
    """The item at the position is wrong in a list of windows; None: the list as a whole is."""

    def __init__(self, position):
        self.position = position


class InvalidUses(GroupError):
    """The used modules of the module are wrong; None: the dict as a whole is."""

    def __init__(self, module):
        self.module = module


class InvalidRows(GroupError):
    """The row at the position is wrong; None: the value is not a list."""

    def __init__(self, position):
        self.position = position


class InvalidState(GroupError):
    """The version of the module is wrong in a state; None: the value as a whole is."""

    def __init__(self, module):
        self.module = module


class InvalidDemand(GroupError):
    """The value is not a demand."""

    def __init__(self, value):
        self.value = value


class InvalidGoals(GroupError):
    """The goal at the position is not a demand; None: the value is not a list."""

    def __init__(self, position):
        self.position = position


class InvalidStep(GroupError):
    """The value is not a step."""

    def __init__(self, value):
        self.value = value


class InvalidSteps(GroupError):
    """The item at the position is wrong in a list of steps; None: the value is not a list."""

    def __init__(self, position):
        self.position = position


class InvalidChange(GroupError):
    """A catalog cannot arise from another one by publications and withdrawals."""


class InvalidCount(GroupError):
    """The value is not a count that is allowed."""

    def __init__(self, value):
        self.value = value


class InvalidText(GroupError):
    """The line of a text, counted from 1, is wrong; 0: the value is not a string."""

    def __init__(self, line):
        self.line = line


class InvalidEntry(GroupError):
    """The value is not an entry."""

    def __init__(self, value):
        self.value = value


class InvalidCommand(GroupError):
    """A value is not a command, or not a list of commands."""


class Missing(LookupError):
    """Something that is named does not exist."""


class UnknownModule(Missing):
    """The value is not a module that is allowed here."""

    def __init__(self, value):
        self.value = value


class UnknownUse(Missing):
    """The user does not use the used module."""

    def __init__(self, user, used):
        self.user = user
        self.used = used


class UnknownVersion(Missing):
    """The module does not have the version, or not any more."""

    def __init__(self, module, version):
        self.module = module
        self.version = version


class UnknownOperator(Missing):
    """The value is not an operator that has goals."""

    def __init__(self, value):
        self.value = value


class UnknownSession(Missing):
    """The value is not the name of a session."""

    def __init__(self, value):
        self.value = value


class Refused(RuntimeError):
    """A call is well formed, but what it asks for is not allowed."""


class NotRising(Refused):
    """A window of the user for the used module does not rise from the one before."""

    def __init__(self, user, used):
        self.user = user
        self.used = used


class NotConsistent(Refused):
    """A state has a conflict between the user and the used module."""

    def __init__(self, user, used):
        self.user = user
        self.used = used


class NotBelow(Refused):
    """The module has a greater version in the first state than in the second one."""

    def __init__(self, module):
        self.module = module


class CannotMeet(Refused):
    """The module has no available version that is not less than the version."""

    def __init__(self, module, version):
        self.module = module
        self.version = version


class NoStep(Refused):
    """No step leads the module to the version: the least state has it already."""

    def __init__(self, module, version):
        self.module = module
        self.version = version


class MissingNeed(Refused):
    """The step needs a step that is not in the list."""

    def __init__(self, step):
        self.step = step


class NotAvailable(Refused):
    """The step is not available in the state."""

    def __init__(self, step):
        self.step = step


class Pinned(Refused):
    """The pin of the module at the version forbids a step."""

    def __init__(self, module, version):
        self.module = module
        self.version = version


class InUse(Refused):
    """The version of the module runs, or a session has it."""

    def __init__(self, module, version):
        self.module = module
        self.version = version


class NameTaken(Refused):
    """The value is the name of a session already."""

    def __init__(self, value):
        self.value = value


class NothingToUndo(Refused):
    """There are fewer calls to take back than asked for."""


class LimitReached(ArithmeticError):
    """A limit, of numbers or of the catalog itself, is reached."""


class TooMany(LimitReached):
    """There would be more things of the kind than the limit."""

    def __init__(self, kind, limit):
        self.kind = kind
        self.limit = limit


class NoState(LimitReached):
    """The catalog has no consistent state, as the chain shows."""

    def __init__(self, chain):
        self.chain = chain


class Unreachable(LimitReached):
    """No consistent state is as asked for, as the chain shows."""

    def __init__(self, chain):
        self.chain = chain
