"""The errors of a text: how many there are, and at which places each of them may lie."""

from errorspans.conflicts import reach
from errorspans.grammars import mirrored


def error_count(grammar, text):
    """Return the number of places of a solution."""
    return len(latest(grammar, text))


def spans(grammar, text):
    """Return the tuple of all spans (least, greatest), in order."""
    return tuple(zip(earliest(grammar, text), latest(grammar, text)))


def latest(grammar, text):
    """Return the tuple of the greatest places of the spans."""
    found = []
    place = reach(grammar, text, -1)
    # The window up to the place reached is bad; its last element is the greatest place that hits it.
    while place <= len(text):
        found.append(place)
        place = reach(grammar, text, place + 1)
    return tuple(found)


def earliest(grammar, text):
    """Return the tuple of the least places of the spans."""
    # The least places are the greatest ones of the reversed text, but START, which is END there, is no place.
    found = latest(mirrored(grammar), text[::-1])
    return tuple([max(len(text) - 1 - place, 0) for place in reversed(found)])
