"""Solutions: as few places as possible that hit all bad windows."""

from errorspans.checks import are_places, is_number_of
from errorspans.conflicts import PLACE, all_reaches, windows_apart
from errorspans.errors import NoSolution
from errorspans.spans import error_count, spans
from errorspans.windows import is_good

# The index of START, where the first window begins.
AHEAD = -1


def is_solution(grammar, text, value):
    """Return whether any value is a solution."""
    if not are_places(value, text) or len(value) != error_count(grammar, text):
        return False
    return all([is_good(grammar, window) for window in windows_apart(text, value, PLACE)])


def count_solutions(grammar, text):
    """Return how many solutions there are."""
    return ways_onward(grammar, text, spans(grammar, text))[AHEAD]


def solution_at(grammar, text, number):
    """Return the solution of that number, in ascending order, from 0."""
    ranges = spans(grammar, text)
    ways = ways_onward(grammar, text, ranges)
    if not is_number_of(number, ways[AHEAD]):
        raise NoSolution(number)
    chosen = []
    rest = number
    for least, greatest in ranges:
        place = least
        while rest >= ways[place + 1]:
            rest -= ways[place + 1]
            place += 1
        chosen.append(place)
    return tuple(chosen)


def ways_onward(grammar, text, ranges):
    """Return a dict of how many choices of places complete a solution whose places so far lie ahead of an index.

    The index is AHEAD if there are none so far, else it is the one right behind the last of them.
    """
    stops = all_reaches(grammar, text)
    ways = {}
    for number in range(len(ranges), -1, -1):
        for begin in begins_ahead(ranges, number):
            if number == len(ranges):
                ways[begin] = 1
            else:
                # The next place may be any one of its span up to the element with which the window becomes bad.
                least = ranges[number][0]
                ways[begin] = sum([ways[place + 1] for place in range(least, stops[begin + 1] + 1)])
    return ways


def begins_ahead(ranges, number):
    """Return the list of the indexes behind the places of the span ahead of that one, [AHEAD] for the first one."""
    if number == 0:
        return [AHEAD]
    least, greatest = ranges[number - 1]
    return [place + 1 for place in range(least, greatest + 1)]
