"""Two grammars: windows and texts by which they differ."""

from errorspans.errors import UnlikeBlocks
from errorspans.pairs import Pair
from errorspans.windows import context, tokens_of


def difference(one, other):
    """Return a shortest window that is good by just one of the two grammars, None if there is none."""
    if [block[:3] for block in one.blocks] != [block[:3] for block in other.blocks]:
        raise UnlikeBlocks()
    return Pair(one, other).shortest_unlike()


def unlike_text(one, other):
    """Return a text with unlike error counts by the two grammars, None if there is none."""
    window = difference(one, other)
    if window is None:
        return None
    # A valid text of the one grammar has no error, but one by the other grammar, where the window is bad.
    around = context(one, window) or context(other, window)
    before, after = around
    return before + tokens_of(window) + after
