"""Checks of values of every kind that several modules need."""


def is_integer(value):
    """Return whether any value is an integer, which a bool is not."""
    return isinstance(value, int) and not isinstance(value, bool)


def is_number_of(value, count):
    """Return whether any value is the number, from 0, of one of so many things."""
    return is_integer(value) and 0 <= value < count


def are_places(value, text):
    """Return whether any value is an ascending tuple of places of the text; gaps have the same numbers."""
    if not isinstance(value, tuple) or not all([is_number_of(place, len(text) + 1) for place in value]):
        return False
    return all([value[at] < value[at + 1] for at in range(len(value) - 1)])
