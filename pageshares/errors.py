"""The errors of the package."""

MOST_BITS = 200


class ShareError(ArithmeticError):
    """The base class of all errors of the package."""


class InvalidFraction(ShareError):
    """The argument with this name must be a fraction and is not one."""

    def __init__(self, name):
        ShareError.__init__(self, f"{_told(name)} is not a fraction")
        self.name = name


class InvalidBound(ShareError):
    """The argument with this name is not allowed for another reason."""

    def __init__(self, name):
        ShareError.__init__(self, f"{_told(name)} is not allowed")
        self.name = name


class InvalidBook(ShareError):
    """A part of a book is wrong; `at` is the wrong weight or kind, or -1."""

    def __init__(self, part, at):
        ShareError.__init__(self, f"the book has wrong {_told(part)} at {_told(at)}")
        self.part = part
        self.at = at


class InvalidStanding(ShareError):
    """A standing is wrong at this kind, or as a whole if `at` is -1."""

    def __init__(self, at):
        ShareError.__init__(self, f"the standing is wrong at {_told(at)}")
        self.at = at


class InvalidRow(ShareError):
    """A row of picks is wrong at this entry, or as a whole if `at` is -1."""

    def __init__(self, at):
        ShareError.__init__(self, f"the row of picks is wrong at {_told(at)}")
        self.at = at


class InvalidHold(ShareError):
    """A part of a hold is wrong."""

    def __init__(self, part):
        ShareError.__init__(self, f"the hold has a wrong {_told(part)}")
        self.part = part


class InvalidText(ShareError):
    """A text is wrong at this word of this line, both counted from 0."""

    def __init__(self, line, word):
        ShareError.__init__(self, f"the text is wrong at line {_told(line)}, word {_told(word)}")
        self.line = line
        self.word = word


class InvalidCall(ShareError):
    """The present state does not allow the call."""

    def __init__(self, call):
        ShareError.__init__(self, f"{_told(call)} is not possible now")
        self.call = call


class NoLimit(ShareError):
    """The book has no limit: the two kinds of the pair have different ends."""

    def __init__(self, pair):
        ShareError.__init__(self, f"the kinds {_told(pair)} have different ends")
        self.pair = pair


class NotPlain(ShareError):
    """The book is not plain: its roots have only so many dimensions."""

    def __init__(self, found):
        ShareError.__init__(self, f"the dimensions of the roots add up to {_told(found)} only")
        self.found = found


class LimitExceeded(ShareError):
    """More would be needed than the limit allows."""

    def __init__(self, limit):
        ShareError.__init__(self, f"the limit of {_told(limit)} is exceeded")
        self.limit = limit


def _told(value):
    # An argument may be any value, and Python refuses to write out an integer of very many digits.
    if isinstance(value, str):
        return value
    if isinstance(value, tuple):
        entries = ", ".join([_told(entry) for entry in value])
        return f"({entries})"
    if isinstance(value, int) and value.bit_length() <= MOST_BITS:
        return str(value)
    return "a value not shown here"
