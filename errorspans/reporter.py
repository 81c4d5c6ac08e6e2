"""The reporter, which receives a text token by token and reports each error as soon as it is certain."""

from errorspans.errors import Finished
from errorspans.scanner import Scanner
from errorspans.tokens import END


class Reporter:
    """Holds a scanner of the window behind the place reported last.

    As long as this window is good, some text goes on from it without another error; so no place is reported too late.
    """

    def __init__(self, grammar):
        self.grammar = grammar
        self.scanner = Scanner(grammar, at_start=True)
        self.received = []
        self.reported = []
        self.finished = False

    def __len__(self):
        return len(self.received)

    def feed(self, token):
        """Receive a token; return its index if it is reported, else None."""
        self.check_unfinished()
        self.received.append(token)
        return self.place_by(token, len(self.received) - 1)

    def finish(self):
        """End the text; return its length if its end is reported, else None."""
        self.check_unfinished()
        self.finished = True
        return self.place_by(END, len(self.received))

    def places(self):
        """Return the tuple of all places reported so far."""
        return tuple(self.reported)

    def expected(self):
        """Return the ascending tuple of the tokens and END that would not be reported next."""
        return () if self.finished else self.scanner.expected()

    def check_unfinished(self):
        """Raise Finished behind the end of the text."""
        if self.finished:
            raise Finished()

    def place_by(self, word, place):
        """Take a step; return the place, and note it, if the step fails there, else None."""
        if self.scanner.feed(word):
            return None
        self.reported.append(place)
        self.scanner = Scanner(self.grammar)
        return place
