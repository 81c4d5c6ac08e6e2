"""Repairs: new tokens at some places that make a text valid."""

from errorspans.changes import changed, joints
from errorspans.checks import are_places
from errorspans.conflicts import PLACE, windows_apart
from errorspans.spans import latest
from errorspans.tokens import is_text
from errorspans.validity import is_valid


def apply_repair(text, changes):
    """Return the text with each token at a place of the repair replaced; at the place of END, tokens put behind all."""
    return changed(text, changes, PLACE)


def is_repair(grammar, text, value):
    """Return whether any value is a repair of the text that makes it valid."""
    if not isinstance(value, tuple) or not all([is_change(part) for part in value]):
        return False
    if not are_places(tuple([part[0] for part in value]), text):
        return False
    return is_valid(grammar, apply_repair(text, value))


def is_change(value):
    """Return whether any value is a pair whose second part is a text."""
    return isinstance(value, tuple) and len(value) == 2 and is_text(value[1])


def repair(grammar, text):
    """Return a repair with as few places as possible."""
    return repair_at(grammar, text, latest(grammar, text))


def repair_at(grammar, text, places):
    """Return a repair with just these places, None if they do not hit all bad windows."""
    found = joints(grammar, windows_apart(text, places, PLACE))
    return None if found is None else tuple(zip(places, found))
