"""Tokens, and the markers that stand around the tokens of a text."""

START = "^"
END = "$"
LETTERS = "abcdefghijklmnopqrstuvwxyz"
MOST_LETTERS = 8


def is_token(value):
    """Return whether any value is a token."""
    if not isinstance(value, str):
        return False
    return 1 <= len(value) <= MOST_LETTERS and all([letter in LETTERS for letter in value])


def is_text(value):
    """Return whether any value is a text."""
    return isinstance(value, tuple) and all([is_token(token) for token in value])
