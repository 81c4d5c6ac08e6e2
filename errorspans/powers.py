"""Texts of plain tokens read many times: which states lead to which."""

from errorspans.scanner import Scanner


def powers_of(grammar, text, most):
    """Return the list of (times, table) for times 1, 2, 4 and so on up to most.

    The table has, by live state, the ascending tuple of the states to which reading the text so many times leads.
    """
    found = []
    times = 1
    table = {state: states_behind_text(grammar, state, text) for state in grammar.rules.live}
    while times <= most:
        found.append((times, table))
        table = {state: image(table, table[state]) for state in table}
        times *= 2
    return found


def states_behind_text(grammar, state, text):
    """Return the states to which reading a text of plain tokens from one state leads."""
    scanner = Scanner(grammar)
    scanner.go_on_from((state,), ())
    for token in text:
        scanner.feed(token)
    return scanner.states()


def image(table, states):
    """Return the ascending tuple of all states to which these lead by the table."""
    return tuple(sorted({follower for state in states for follower in table[state]}))


def longest_run(powers, states, most):
    """Return how often the text can be read from these states, at most so many times, and the states behind that."""
    done = 0
    # Behind a step that fails all fail, so the greatest power that still fits is always right.
    for times, table in reversed(powers):
        if done + times <= most:
            found = image(table, states)
            if found:
                done += times
                states = found
    return (done, states)
