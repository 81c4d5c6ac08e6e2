"""Windows: parts of marked texts, good ones and bad ones."""

from errorspans.grammars import mirrored
from errorspans.scanner import Scanner
from errorspans.tokens import END, START, is_text
from errorspans.validity import completion, ending_of, is_valid


def is_window(value):
    """Return whether any value is a window."""
    return isinstance(value, tuple) and is_text(tokens_of(value))


def is_good(grammar, window):
    """Return whether the window stands without a gap in the marked text of some valid text."""
    return scanned(grammar, window).is_alive()


def expected(grammar, window):
    """Return the ascending tuple of the tokens and END which, put behind the window, make a good window."""
    return scanned(grammar, window).expected()


def context(grammar, window):
    """Return texts (before, after) that make the window's tokens valid between them, None if the window is bad."""
    return context_by(grammar, mirrored(grammar), window)


def context_by(grammar, mirror, window):
    """Return what context returns; mirror is the mirrored grammar, which is made once for many windows."""
    if window == ():
        return ((), ())
    scanner = scanned(grammar, window)
    if not scanner.is_alive():
        return None
    tokens = tokens_of(window)
    after = () if has_end(window) else ending_of(scanner)
    if has_start(window):
        return ((), after)
    # What comes ahead of a text comes behind the reversed one, by the mirrored grammar.
    before = completion(mirror, (tokens + after)[::-1])[::-1]
    return (before, after)


def shows_context(grammar, window, value):
    """Return whether any value is a pair such as context returns for a good window."""
    if not isinstance(value, tuple) or len(value) != 2 or not all([is_text(part) for part in value]):
        return False
    before, after = value
    if (has_start(window) and before != ()) or (has_end(window) and after != ()):
        return False
    return is_valid(grammar, before + tokens_of(window) + after)


def scanned(grammar, window):
    """Return a scanner that has read the window."""
    scanner = Scanner(grammar, at_start=has_start(window))
    for word in behind_start(window):
        scanner.feed(word)
    return scanner


def has_start(window):
    """Return whether START stands first."""
    return window[:1] == (START,)


def has_end(window):
    """Return whether END stands last."""
    return window[-1:] == (END,)


def behind_start(window):
    """Return the window without START."""
    return window[1:] if has_start(window) else window


def tokens_of(window):
    """Return what stands between the markers."""
    inner = behind_start(window)
    return inner[:-1] if has_end(inner) else inner
