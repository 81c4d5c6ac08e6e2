"""The errors of the package, each directly under SpanError."""


class SpanError(ValueError):
    """What all errors of the package have in common."""


class BadGrammar(SpanError):
    """The values make no grammar; field is the first wrong one."""

    def __init__(self, field):
        self.field = field


class NoBlock(SpanError):
    """The grammar has no block of that name."""

    def __init__(self, name):
        self.name = name


class NotPrefix(SpanError):
    """No valid text begins with the text up to the token at that place."""

    def __init__(self, place):
        self.place = place


class NoSolution(SpanError):
    """There is no solution of that number."""

    def __init__(self, number):
        self.number = number


class NoError(SpanError):
    """There is no span of that number."""

    def __init__(self, number):
        self.number = number


class UnknownToken(SpanError):
    """No valid text has that token."""

    def __init__(self, token):
        self.token = token


class Finished(SpanError):
    """The reporter has received the whole text."""


class BadText(SpanError):
    """The value is no text."""

    def __init__(self, value):
        self.value = value


class BadRange(SpanError):
    """The value is no range of the text."""

    def __init__(self, value):
        self.value = value


class NotAFix(SpanError):
    """The value is no fix of that error."""

    def __init__(self, value):
        self.value = value


class NothingToUndo(SpanError):
    """No step is left that could be taken back."""


class NothingToRedo(SpanError):
    """No step is left that could be done again."""


class Busy(SpanError):
    """The document is within an edit."""


class NotPlain(SpanError):
    """The piece of that index is repeated, but has a token that begins or ends a block."""

    def __init__(self, piece):
        self.piece = piece


class UnlikeBlocks(SpanError):
    """The blocks of the two grammars have unlike names or tokens."""


class BadSource(SpanError):
    """The source is not written as it should be; row is the first wrong one."""

    def __init__(self, row):
        self.row = row


class BadLine(SpanError):
    """The session knows no such line."""

    def __init__(self, line):
        self.line = line
