"""The errors of a text: how many there are, and at which places each of them may lie."""

from errorspans.conflicts import PLACE, reach
from errorspans.grammars import mirrored


def error_count(grammar, text):
    """Return the number of places of a solution."""
    return len(latest(grammar, text))


def spans(grammar, text):
    """Return the tuple of all spans (least, greatest), in order."""
    return tuple(zip(earliest(grammar, text), latest(grammar, text)))


def latest(grammar, text):
    """Return the tuple of the greatest places of the spans."""
    return greatest_numbers(grammar, text, PLACE)


def earliest(grammar, text):
    """Return the tuple of the least places of the spans."""
    return least_numbers(grammar, text, PLACE)


def greatest_numbers(grammar, text, width):
    """Return the tuple of the greatest places or gaps, of that width, of the spans."""
    found = []
    number = reach(grammar, text, -1)
    # The window up to the element reached is bad. Its place is the greatest one that hits the window, and the gap ahead
    # of it the greatest one that cuts the window.
    while number <= len(text):
        found.append(number)
        number = reach(grammar, text, number + width)
    return tuple(found)


def least_numbers(grammar, text, width):
    """Return the tuple of the least places or gaps, of that width, of the spans."""
    # They are the greatest ones of the reversed text, but START, which is END there, has no place.
    found = greatest_numbers(mirrored(grammar), text[::-1], width)
    return tuple([max(len(text) - width - number, 0) for number in reversed(found)])
