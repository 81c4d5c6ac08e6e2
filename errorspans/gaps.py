"""Insertions alone: errors between neighbouring elements, and tokens put there that make a text valid.

The gap of a number lies ahead of the element of that index.
"""

from errorspans.changes import changed, joints
from errorspans.checks import are_places
from errorspans.conflicts import GAP, windows_apart
from errorspans.errors import UnknownToken
from errorspans.spans import greatest_numbers, least_numbers
from errorspans.windows import is_good


def gap_count(grammar, text):
    """Return the number of gaps of a gap solution."""
    check_tokens(grammar, text)
    return len(greatest_numbers(grammar, text, GAP))


def gap_spans(grammar, text):
    """Return the tuple of the gap spans (least, greatest), in order."""
    check_tokens(grammar, text)
    return tuple(zip(least_numbers(grammar, text, GAP), greatest_numbers(grammar, text, GAP)))


def is_gap_solution(grammar, text, value):
    """Return whether any value is a gap solution."""
    check_tokens(grammar, text)
    if not are_places(value, text) or len(value) != len(greatest_numbers(grammar, text, GAP)):
        return False
    return all([is_good(grammar, window) for window in windows_apart(text, value, GAP)])


def insertions(grammar, text):
    """Return an ascending tuple of (gap, tokens), as few gaps as possible, which inserted make the text valid."""
    check_tokens(grammar, text)
    gaps = greatest_numbers(grammar, text, GAP)
    return tuple(zip(gaps, joints(grammar, windows_apart(text, gaps, GAP))))


def apply_insertions(text, changes):
    """Return the text with the tokens inserted at the gaps."""
    return changed(text, changes, GAP)


def check_tokens(grammar, text):
    """Raise UnknownToken with the first token that no valid text has: no insertion makes its window good."""
    for token in text:
        if not is_good(grammar, (token,)):
            raise UnknownToken(token)
