"""Witnesses: bad windows apart from one another, as many as there are errors."""

from errorspans.checks import is_integer
from errorspans.conflicts import window_at
from errorspans.spans import error_count, latest
from errorspans.windows import is_good


def witness(grammar, text):
    """Return an ascending tuple of (begin, stop) of as many bad windows as errors, no two with a common element."""
    places = latest(grammar, text)
    begins = [-1] + [place + 1 for place in places]
    return tuple([(begin, place + 1) for begin, place in zip(begins, places)])


def is_witness(grammar, text, value):
    """Return whether any value is such a tuple."""
    if not isinstance(value, tuple) or not all([is_range(pair, text) for pair in value]):
        return False
    if len(value) != error_count(grammar, text):
        return False
    # Bad windows are not empty, so those apart from one another in this order are ascending.
    if not all([value[at][1] <= value[at + 1][0] for at in range(len(value) - 1)]):
        return False
    return not any([is_good(grammar, window_at(text, begin, stop)) for begin, stop in value])


def is_range(value, text):
    """Return whether any value is (begin, stop) of a window of the text."""
    if not isinstance(value, tuple) or len(value) != 2 or not all([is_integer(part) for part in value]):
        return False
    begin, stop = value
    return -1 <= begin <= stop <= len(text) + 1
