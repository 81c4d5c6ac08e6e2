"""Documents: texts that are edited, with steps that can be taken back."""

from errorspans.checks import is_integer, is_number_of
from errorspans.errors import BadRange, BadText, Busy, NoError, NotAFix, NothingToRedo, NothingToUndo
from errorspans.fixes import is_fix
from errorspans.spans import error_count, spans
from errorspans.tokens import is_text

HISTORY = 50


class Document:
    """A grammar, a text, and the steps (text ahead of it, text behind it) that can be undone and redone.

    Within an edit these lists stay as they are; the edit becomes a step where it ends.
    """

    def __init__(self, grammar, *, text=(), history=HISTORY):
        if not is_text(text):
            raise BadText(text)
        self.grammar = grammar
        self.words = text
        self.history = history
        self.done = []
        self.undone = []
        self.busy = False
        self.stepped = False

    def __eq__(self, other):
        return isinstance(other, Document) and self.grammar == other.grammar and self.words == other.words

    def __len__(self):
        return len(self.words)

    def replace_range(self, begin, stop, tokens):
        """Replace the tokens from begin to stop - 1."""
        if not self.has_range(begin, stop):
            raise BadRange((begin, stop))
        if not is_text(tokens):
            raise BadText(tokens)
        before = self.words
        self.words = before[:begin] + tokens + before[stop:]
        self.stepped = True
        if not self.busy:
            self.keep_step(before)

    def insert_tokens(self, at, tokens):
        """Put tokens ahead of the token of that index."""
        self.replace_range(at, at, tokens)

    def delete_range(self, begin, stop):
        """Remove the tokens from begin to stop - 1."""
        self.replace_range(begin, stop, ())

    def fix(self, number, place, tokens):
        """Put the tokens of a fix of that error at its place."""
        ranges = self.spans()
        if not is_number_of(number, len(ranges)):
            raise NoError(number)
        if not self.is_fix_within(ranges[number], place, tokens):
            raise NotAFix((place, tokens))
        # The place of END has no token that is replaced.
        self.replace_range(place, min(place + 1, len(self.words)), tokens)

    def undo(self):
        """Take the last step back."""
        self.check_free()
        if not self.done:
            raise NothingToUndo()
        step = self.done.pop()
        self.undone.append(step)
        self.words = step[0]

    def redo(self):
        """Do the step that was taken back last again."""
        self.check_free()
        if not self.undone:
            raise NothingToRedo()
        step = self.undone.pop()
        self.done.append(step)
        self.words = step[1]

    def edit(self, function):
        """Call the function with the document; all steps within become one. Return what the function returns."""
        self.check_free()
        before = self.words
        # What the text is set back to, unless the function comes to its end.
        back = before
        self.busy = True
        self.stepped = False
        try:
            result = function(self)
            back = None
        finally:
            self.busy = False
            if back is not None:
                self.words = back
        if self.stepped:
            self.keep_step(before)
        return result

    def text(self):
        """Return the text."""
        return self.words

    def undo_steps(self):
        """Return how many steps can be undone."""
        return len(self.done)

    def redo_steps(self):
        """Return how many steps can be redone."""
        return len(self.undone)

    def spans(self):
        """Return the spans of the text."""
        return spans(self.grammar, self.words)

    def error_count(self):
        """Return the error count of the text."""
        return error_count(self.grammar, self.words)

    def clone(self):
        """Return an equal document of its own with the same steps, which is not within an edit."""
        twin = Document(self.grammar, text=self.words, history=self.history)
        twin.done = list(self.done)
        twin.undone = list(self.undone)
        return twin

    def has_range(self, begin, stop):
        """Return whether any values are the begin and the stop of a range of the text."""
        return is_integer(begin) and is_integer(stop) and 0 <= begin <= stop <= len(self.words)

    def is_fix_within(self, span, place, tokens):
        """Return whether any values are a fix at a place of that span."""
        least, greatest = span
        if not is_integer(place) or not least <= place <= greatest or not is_text(tokens):
            return False
        return is_fix(self.grammar, self.words, place, tokens)

    def check_free(self):
        """Raise Busy within an edit."""
        if self.busy:
            raise Busy()

    def keep_step(self, before):
        """Keep the step from the text before to the present one; discard what could be redone, and what is too old."""
        self.undone = []
        self.done.append((before, self.words))
        if len(self.done) > self.history:
            del self.done[0]
