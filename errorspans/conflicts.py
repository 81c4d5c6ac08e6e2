"""Conflicts: the bad windows of a text all of whose proper parts are good.

START has index -1, the tokens of a text of n tokens 0 to n - 1, END n. The window (begin, stop) ends ahead of stop.
"""

from errorspans.scanner import Scanner
from errorspans.tokens import END, START

# How many elements a place and a gap take away: the place of an element takes this one, a gap none.
PLACE = 1
GAP = 0


def window_at(text, begin, stop):
    """Return the window (begin, stop) of the text."""
    marked = (START,) + text + (END,)
    return marked[begin + 1:stop + 1]


def reach(grammar, text, begin):
    """Return the greatest stop such that the window (begin, stop) is good."""
    words = text + (END,)
    scanner = Scanner(grammar, at_start=begin == -1)
    stop = max(begin, 0)
    while stop < len(words) and scanner.feed(words[stop]):
        stop += 1
    return stop


def conflicts(grammar, text):
    """Return the ascending tuple of all (begin, stop) of conflicts."""
    stops = all_reaches(grammar, text)
    # A bad window that is as short as possible from its begin is a conflict if it is good without its first element.
    return tuple([(at - 1, stops[at] + 1) for at in range(len(stops) - 1) if stops[at] < stops[at + 1]])


def all_reaches(grammar, text):
    """Return the list of what reach returns for each begin, from -1 on."""
    words = text + (END,)
    found = []
    groups = [(Scanner(grammar, at_start=True), 1)]
    for stop, word in enumerate(words):
        groups.append((Scanner(grammar), 1))
        alive = fed_groups(groups, word)
        # A part of a good window is good, so the groups that fail are those that began first.
        count = sum([many for scanner, many in groups]) - sum([many for scanner, many in alive])
        found.extend([stop] * count)
        groups = alive
    return found + [len(words)] * (len(words) + 2 - len(found))


def fed_groups(groups, word):
    """Feed each scanner of the groups (scanner, how many begins it stands for); return those that are alive then.

    Scanners that began at neighbouring begins are soon alike; they become one group, so that there are few.
    """
    alive = []
    for scanner, many in groups:
        if not scanner.feed(word):
            continue
        if alive and scanner.is_like(alive[-1][0]):
            alive[-1] = (scanner, alive[-1][1] + many)
        else:
            alive.append((scanner, many))
    return alive


def windows_apart(text, numbers, width):
    """Return the list of the windows into which ascending places or gaps, of that width, part the marked text."""
    begins = [-1] + [number + width for number in numbers]
    stops = list(numbers) + [len(text) + 1]
    return [window_at(text, begin, stop) for begin, stop in zip(begins, stops)]
