"""Reports: where an error lies, what it conflicts with, and what was expected there."""

from errorspans.checks import is_number_of
from errorspans.conflicts import conflicts, window_at
from errorspans.errors import NoError
from errorspans.spans import spans
from errorspans.windows import expected


def report(grammar, text, number):
    """Return (least, greatest, (begin, stop) of the conflict, words expected) of the span of that number."""
    ranges = spans(grammar, text)
    if not is_number_of(number, len(ranges)):
        raise NoError(number)
    least, greatest = ranges[number]
    # The window up to the greatest place is the first bad one behind the span ahead, so one conflict ends with it.
    ending = [pair for pair in conflicts(grammar, text) if pair[1] == greatest + 1]
    begin = -1 if number == 0 else ranges[number - 1][1] + 1
    return (least, greatest, ending[0], expected(grammar, window_at(text, begin, greatest)))


def show_report(found):
    """Return a report as it is written."""
    least, greatest, conflict, words = found
    places = str(least) if least == greatest else f"{least}-{greatest}"
    told = ", ".join(words)
    return f"{places}: expected {told}"
