"""Valid texts, and what makes the beginning of one valid."""

from errorspans.errors import NotPrefix
from errorspans.scanner import Scanner
from errorspans.tokens import END


def is_valid(grammar, text):
    """Return whether the text is valid."""
    scanner = Scanner(grammar, at_start=True)
    for token in text:
        if not scanner.feed(token):
            return False
    return scanner.feed(END)


def completion(grammar, text):
    """Return a shortest tuple of tokens that makes the text valid where it is put behind it."""
    scanner = Scanner(grammar, at_start=True)
    for place, token in enumerate(text):
        if not scanner.feed(token):
            raise NotPrefix(place)
    return ending_of(scanner)


def ending_of(scanner):
    """Return tokens behind which a living scanner takes END; a shortest such tuple if it began at the start."""
    rules = scanner.grammar.rules
    found = []
    held = scanner.states()
    # What follows a close token depends on the stack alone, so each level takes its own shortest way.
    for name, surrounding in reversed(scanner.stack):
        found.extend(finishing_tokens(rules, nearest_end(rules, held)))
        found.append(rules.brackets[name][1])
        held = surrounding
    state = nearest_end(rules, held)
    found.extend(finishing_tokens(rules, state))
    # Below the stack a window may lie in blocks that were opened ahead of it.
    while state[0] != "":
        found.append(rules.brackets[state[0]][1])
        state = rules.outside[state[0]]
        found.extend(finishing_tokens(rules, state))
    return tuple(found)


def nearest_end(rules, states):
    """Return one of the states from which the fewest tokens lead to the end of its owner's expression."""
    return min(states, key=lambda state: rules.costs[state])


def finishing_tokens(rules, state):
    """Return a shortest list of tokens that lead from the state to the end of its owner's expression."""
    found = []
    while state in rules.onward:
        state = rules.onward[state]
        kind, name = rules.leaf_at[state]
        if kind == "token":
            found.append(name)
        else:
            found.append(rules.brackets[name][0])
            found.extend(finishing_tokens(rules, (name, 0)))
            found.append(rules.brackets[name][1])
    return found
