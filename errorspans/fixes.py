"""Fixes: changes at one place that remove one error."""

from errorspans.changes import joints
from errorspans.checks import is_number_of
from errorspans.conflicts import window_at
from errorspans.errors import NoError
from errorspans.repairs import apply_repair
from errorspans.scanner import Scanner
from errorspans.spans import error_count, spans
from errorspans.tokens import END


def is_fix(grammar, text, place, tokens):
    """Return whether the text with these tokens at the place has one error fewer."""
    after = apply_repair(text, ((place, tokens),))
    return error_count(grammar, after) == error_count(grammar, text) - 1


def fix(grammar, text, place):
    """Return tokens that are a fix at this place, None if it lies in no span."""
    ranges = spans(grammar, text)
    for number, (least, greatest) in enumerate(ranges):
        if least <= place <= greatest:
            begin, stop = range_between(text, ranges, number)
            pieces = [window_at(text, begin, place), window_at(text, place + 1, stop)]
            return joints(grammar, pieces)[0]
    return None


def range_between(text, ranges, number):
    """Return (begin, stop) of the window between the greatest place of the span ahead and the least of the next one.

    A change at a place of the span of that number is a fix if and only if it makes this window good: then these and the
    other greatest places ahead and least places behind hit all that is bad.
    """
    begin = -1 if number == 0 else ranges[number - 1][1] + 1
    stop = len(text) + 1 if number == len(ranges) - 1 else ranges[number + 1][0]
    return (begin, stop)


def quick_fixes(grammar, text, number):
    """Return the ascending tuple of the fixes (place, tokens) of that span that remove, exchange or add one token."""
    ranges = spans(grammar, text)
    if not is_number_of(number, len(ranges)):
        raise NoError(number)
    least, greatest = ranges[number]
    begin, stop = range_between(text, ranges, number)
    words = (text + (END,))[:stop]
    scanner = Scanner(grammar, at_start=begin == -1)
    reads(scanner, words[max(begin, 0):least])
    known = {}
    found = []
    for place in range(least, greatest + 1):
        for tokens in quick_tokens(grammar, text, place):
            twin = scanner.clone()
            # END stays where it is, behind what is put at its place.
            if reads(twin, tokens) and reads_on(twin, words, min(place + 1, len(text)), known):
                found.append((place, tokens))
        scanner.feed(words[place])
    return tuple(found)


def quick_tokens(grammar, text, place):
    """Return the ascending list of the tokens that quick_fixes tries at a place."""
    found = [()]
    for token in grammar.tokens():
        found.append((token,))
        if place < len(text):
            found.extend([(text[place], token), (token, text[place])])
    return sorted(set(found))


def reads(scanner, words):
    """Feed the words to the scanner; return whether no step failed."""
    return all([scanner.feed(word) for word in words])


def reads_on(scanner, words, at, known):
    """Return whether a living scanner can read the words from that index on.

    known keeps the answers: scanners that read unlike tokens are soon alike, so most of them need few steps.
    """
    passed = []
    answer = None
    while answer is None:
        key = (at, scanner.states(), tuple(scanner.stack))
        if key in known:
            answer = known[key]
        elif at == len(words) or not scanner.is_alive():
            answer = scanner.is_alive()
        else:
            passed.append(key)
            scanner.feed(words[at])
            at += 1
    for key in passed:
        known[key] = answer
    return answer
