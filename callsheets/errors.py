"""The errors of the program (point 3); each derives directly from CallError."""


class CallError(ValueError):
    """What all errors have: a code, which is a word."""

    def __init__(self, code):
        self.code = code


class FilmError(CallError):
    """A text of a film is wrong in a line."""

    def __init__(self, code, line):
        CallError.__init__(self, code)
        self.line = line


class CalendarError(CallError):
    """A text of a calendar is wrong in a line."""

    def __init__(self, code, line):
        CallError.__init__(self, code)
        self.line = line


class RuleError(CallError):
    """A text of rules is wrong in a line."""

    def __init__(self, code, line):
        CallError.__init__(self, code)
        self.line = line


class BookError(CallError):
    """A text of a day book is wrong in a line."""

    def __init__(self, code, line):
        CallError.__init__(self, code)
        self.line = line


class OrderError(CallError):
    """A set of scenes or an arrangement does not keep the orders."""


class SheetError(CallError):
    """A call sheet is wrong."""


class CaseError(CallError):
    """A case, or a course or a step of it, is wrong."""


class LargeError(CallError):
    """There are more steps than the program looks through."""


class MoneyError(CallError):
    """Fees are wrong."""


class MendError(CallError):
    """News or a mend do not fit their case or day book."""


class NoticeError(CallError):
    """A notice is asked for that cannot be given."""


class StockError(CallError):
    """Takes, rolls, things or sequences are wrong."""


class HouseError(CallError):
    """A house cannot do what it is told."""
