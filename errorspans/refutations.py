"""Refutations: the steps that show that a window is bad."""

from errorspans.checks import is_integer
from errorspans.scanner import Scanner
from errorspans.windows import behind_start, has_start


def refutation(grammar, window):
    """Return None if the window is good, else the tuple of the rows (states, stack) up to the step that fails."""
    scanner = Scanner(grammar, at_start=has_start(window))
    rows = []
    for word in behind_start(window):
        rows.append((scanner.states(), tuple(scanner.stack)))
        if not scanner.feed(word):
            return tuple(rows)
    return None


def shows_refutation(grammar, window, value):
    """Return whether any value is a tuple of rows, each with at least what is needed, that shows the window bad."""
    words = behind_start(window)
    if not isinstance(value, tuple) or not 1 <= len(value) <= len(words):
        return False
    if not all([is_row(grammar, row) for row in value]):
        return False
    scanner = Scanner(grammar, at_start=has_start(window))
    for row, word in zip(value, words):
        if not scanner.is_alive() or not covers(row, scanner):
            return False
        states, stack = row
        scanner.go_on_from(states, stack)
        scanner.feed(word)
    return not scanner.is_alive()


def is_row(grammar, value):
    """Return whether any value is (states, stack) by its form."""
    if not isinstance(value, tuple) or len(value) != 2 or not isinstance(value[1], tuple):
        return False
    return are_states(grammar, value[0]) and all([is_level(grammar, level) for level in value[1]])


def is_level(grammar, value):
    """Return whether any value is (name, states) by its form, where the name may be anything."""
    return isinstance(value, tuple) and len(value) == 2 and are_states(grammar, value[1])


def are_states(grammar, value):
    """Return whether any value is an ascending tuple of live states."""
    if not isinstance(value, tuple) or not all([is_live(grammar, state) for state in value]):
        return False
    return all([value[at] < value[at + 1] for at in range(len(value) - 1)])


def is_live(grammar, value):
    """Return whether any value is a live state."""
    if not isinstance(value, tuple) or len(value) != 2:
        return False
    return isinstance(value[0], str) and is_integer(value[1]) and value in grammar.rules.followers


def covers(row, scanner):
    """Return whether a row has at least the scanner's states, and on its stack the same names with at least theirs."""
    states, stack = row
    if [level[0] for level in stack] != [level[0] for level in scanner.stack]:
        return False
    if not has_all(states, scanner.states()):
        return False
    return all([has_all(wide[1], narrow[1]) for wide, narrow in zip(stack, scanner.stack)])


def has_all(wide, narrow):
    """Return whether the one ascending tuple of states has all of the other."""
    return len(set(wide + narrow)) == len(wide)
