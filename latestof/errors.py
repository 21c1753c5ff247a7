"""The errors of the package.

No message contains the value that caused the error: the value may be too great or too deep to be written out.
"""


class TimingError(ValueError):
    """The base of the errors for arguments of a wrong form."""


class InvalidRules(TimingError):
    """Something is not a rule or not a rule set."""


class InvalidTimes(TimingError):
    """Something is not times of the size."""


class InvalidBounds(TimingError):
    """Something is not bounds of the size."""


class InvalidExpression(TimingError):
    """Something is not an expression."""


class InvalidClause(TimingError):
    """Something is not a clause, or cannot be made one."""


class InvalidPlan(TimingError):
    """Something is not a plan, or cannot be made one."""


class ParseError(TimingError):
    """A text or bytes cannot be read."""


class UnknownVariable(IndexError):
    """There is no such variable."""

    def __init__(self, variable):
        super().__init__("there is no such variable")
        self.variable = variable


class UnknownEvent(KeyError):
    """There is no such event."""

    def __init__(self, name):
        super().__init__("there is no such event")
        self.name = name


class InvalidNumber(LookupError):
    """A number is not one of those that are allowed."""

    def __init__(self, value):
        super().__init__("the number is not allowed here")
        self.value = value


class TooLarge(OverflowError):
    """A result would be beyond a limit."""

    def __init__(self, limit):
        super().__init__("the result would be beyond the limit")
        self.limit = limit


class Refuted(ArithmeticError):
    """There is no answer, for the reason that is kept."""

    def __init__(self, reason):
        super().__init__("there is a reason against it")
        self.reason = reason


class NothingToUndo(RuntimeError):
    """There are fewer operations to undo than were asked for."""

    def __init__(self, count):
        super().__init__("there are not so many operations to undo")
        self.count = count
