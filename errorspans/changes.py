"""What repairs and insertions have in common: tuples of (number, tokens), ascending by numbers."""

from errorspans.grammars import mirrored
from errorspans.windows import context_by


def changed(text, changes, width):
    """Return the text with the tokens of each change at its place or gap, which takes so many tokens away."""
    found = []
    done = 0
    for number, tokens in changes:
        found.extend(text[done:number])
        found.extend(tokens)
        done = number + width
    found.extend(text[done:])
    return tuple(found)


def joints(grammar, pieces):
    """Return the list of the tokens which, put between the windows, make a good one of all; None if one is bad."""
    mirror = mirrored(grammar)
    contexts = [context_by(grammar, mirror, piece) for piece in pieces]
    if None in contexts:
        return None
    # Each window becomes a valid text of its own, and valid texts behind one another are valid.
    return [contexts[at][1] + contexts[at + 1][0] for at in range(len(contexts) - 1)]
