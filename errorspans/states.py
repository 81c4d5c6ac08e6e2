"""The states of reading valid texts."""


def live_states(grammar):
    """Return the ascending tuple of all live states."""
    return grammar.rules.live


def followers(grammar, state):
    """Return the ascending tuple of the live states of the same owner to which reading one leaf leads."""
    return grammar.rules.followers[state]


def can_end(grammar, state):
    """Return whether the owner's expression may end at a live state; for owner "", whether the text may."""
    return grammar.rules.ending[state]
