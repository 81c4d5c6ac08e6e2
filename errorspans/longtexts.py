"""Long texts: pieces (times, text) that stand for each text so many times, one piece behind another."""

from errorspans.checks import is_number_of
from errorspans.errors import NoError, NotPlain
from errorspans.grammars import mirrored
from errorspans.powers import longest_run, powers_of
from errorspans.scanner import Scanner
from errorspans.tokens import END


class Walk:
    """Reads a long text, counts its errors, and keeps the greatest place of the one that is wanted.

    wanted: the number of an error, None if none is wanted.
    length: how many tokens were read.
    total: how many errors were found.
    place: that of the wanted one, None as long as it was not found.
    """

    def __init__(self, grammar, wanted):
        self.grammar = grammar
        self.wanted = wanted
        self.scanner = Scanner(grammar, at_start=True)
        self.length = 0
        self.total = 0
        self.place = None

    def read_pieces(self, pieces):
        """Read a whole text."""
        for times, text in pieces:
            if times == 1:
                self.read_once(text)
            elif times > 1:
                self.read_often(times, text)
        self.read_word(END)

    def read_once(self, text):
        """Read a text token by token."""
        for token in text:
            self.read_word(token)
            self.length += 1

    def read_word(self, word):
        """Take a step; where it fails there is an error, and what follows is read from anywhere."""
        if self.scanner.feed(word):
            return
        if self.total == self.wanted:
            self.place = self.length
        self.total += 1
        self.scanner = Scanner(self.grammar)

    def read_often(self, times, text):
        """Read a text of plain tokens so many times."""
        powers = powers_of(self.grammar, text, times)
        left = times
        seen = {}
        while left > 0:
            left -= self.run_ahead(powers, text, left)
            if left == 0:
                return
            # Now there is an error. What comes behind depends on the states alone, so it comes again with them.
            self.read_once(text)
            left -= 1
            states = self.scanner.states()
            if states in seen:
                old_left, old_total = seen[states]
                left -= self.skip_turns(text, left, old_left - left, self.total - old_total)
            seen[states] = (left, self.total)

    def run_ahead(self, powers, text, most):
        """Read the text as often as there is no error, at most so many times; return how often."""
        times, states = longest_run(powers, self.scanner.states(), most)
        self.scanner.go_on_from(states, self.scanner.stack)
        self.length += times * len(text)
        return times

    def skip_turns(self, text, left, period, gain):
        """Skip turns of so many times the text with so many errors each; return how often the text was skipped.

        The turn with the wanted error is not skipped.
        """
        turns = left // period
        if self.wanted is not None and self.place is None:
            turns = min(turns, (self.wanted - self.total) // gain)
        self.total += turns * gain
        self.length += turns * period * len(text)
        return turns * period


def long_error_count(grammar, pieces):
    """Return the error count of the text that the pieces stand for."""
    check_plain(grammar, pieces)
    return walked(grammar, pieces, None).total


def long_span(grammar, pieces, number):
    """Return the span (least, greatest) of that number, from 0."""
    check_plain(grammar, pieces)
    total = walked(grammar, pieces, None).total
    if not is_number_of(number, total):
        raise NoError(number)
    greatest = walked(grammar, pieces, number).place
    # The least place is the greatest one of the reversed text, but START, which is END there, has no place.
    walk = walked(mirrored(grammar), reversed_pieces(pieces), total - 1 - number)
    return (max(walk.length - 1 - walk.place, 0), greatest)


def check_plain(grammar, pieces):
    """Raise NotPlain with the index of the first piece that is repeated and has an open or close token."""
    rules = grammar.rules
    for index, (times, text) in enumerate(pieces):
        if times > 1 and any([token in rules.opened or token in rules.closed for token in text]):
            raise NotPlain(index)


def walked(grammar, pieces, wanted):
    """Return a walk that has read the whole text."""
    walk = Walk(grammar, wanted)
    walk.read_pieces(pieces)
    return walk


def reversed_pieces(pieces):
    """Return the pieces of the reversed text."""
    return tuple([(times, text[::-1]) for times, text in pieces[::-1]])
