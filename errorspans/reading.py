"""Expressions, grammars and texts read back from what is written just so."""

from errorspans.errors import BadGrammar, BadSource
from errorspans.expressions import MOST_LEVELS, is_expression
from errorspans.grammars import Grammar
from errorspans.showing import NOTHING, show_expression
from errorspans.tokens import is_token

# By the sign that begins it, the kind of what stands in brackets; round ones make no expression of their own.
BRACKETS = {"(": "", "{": "repeat", "[": "optional"}
CLOSING = (")", "}", "]")
BAR = "|"


class Words:
    """Reads the words of an expression from left to right; wrong words become a value that is no expression.

    It need not see all that is wrong: what it reads counts only if it is an expression and is written just so.
    """

    def __init__(self, words):
        self.words = words
        self.at = 0

    def choice(self, levels):
        """Return the expression from here up to a closing bracket or the end, brackets at most so many levels deep."""
        parts = [self.sequence(levels)]
        while self.at < len(self.words) and self.words[self.at] == BAR:
            self.at += 1
            parts.append(self.sequence(levels))
        return joined("choice", parts)

    def sequence(self, levels):
        """Return the expression from here up to a bar, a closing bracket or the end."""
        parts = []
        while self.at < len(self.words) and self.words[self.at] not in (BAR,) + CLOSING:
            parts.append(self.part(levels))
        return joined("sequence", parts)

    def part(self, levels):
        """Return the leaf, or what stands in the brackets, that begins here."""
        word = self.words[self.at]
        self.at += 1
        if word not in BRACKETS:
            return leaf_of(word)
        # Each level of brackets needs one of the expression's levels, so deeper ones need not be read.
        if levels == 0:
            return None
        inner = self.choice(levels - 1)
        # The closing bracket.
        self.at += 1
        return inner if word == "(" else (BRACKETS[word], inner)


def joined(kind, parts):
    """Return the parts as an expression of that kind, a single part as it is."""
    return parts[0] if len(parts) == 1 else (kind,) + tuple(parts)


def leaf_of(word):
    """Return the leaf that is written so, None if the word is none."""
    if is_token(word):
        return ("token", word)
    if word[:1] == "<" and word[-1:] == ">" and is_token(word[1:-1]):
        return ("block", word[1:-1])
    return None


def expression_of(source):
    """Return the expression that a string writes, None if it writes none."""
    found = Words(source.split(" ")).choice(MOST_LEVELS)
    return found if is_expression(found) and show_expression(found) == source else None


def text_of(source):
    """Return the text that a string writes, None if it writes none."""
    if source == NOTHING:
        return ()
    words = source.split(" ")
    return tuple(words) if all([is_token(word) for word in words]) else None


def block_of(row):
    """Return the block that a row writes, None if it writes none."""
    head, sign, source = row.partition(" = ")
    words = head.split(" ")
    inner = expression_of(source)
    if len(words) != 3 or not all([is_token(word) for word in words]) or inner is None:
        return None
    return tuple(words) + (inner,)


def item_of(row):
    """Return the item that a row writes, None if it writes none."""
    head, sign, source = row.partition(" = ")
    return expression_of(source) if head == "item" else None


def read_expression(source):
    """Return the expression that any value writes."""
    found = expression_of(source) if isinstance(source, str) else None
    if found is None:
        raise BadSource(0)
    return found


def read_text(source):
    """Return the text that any value writes."""
    found = text_of(source) if isinstance(source, str) else None
    if found is None:
        raise BadSource(0)
    return found


def read_grammar(source):
    """Return the grammar that any value writes."""
    if not isinstance(source, str):
        raise BadSource(0)
    rows = source.split("\n")
    parts = [item_of(rows[0])] + [block_of(row) for row in rows[1:]]
    for index, part in enumerate(parts):
        if part is None:
            raise BadSource(index)
    try:
        return Grammar(parts[0], blocks=tuple(parts[1:]))
    except BadGrammar:
        raise BadSource(len(rows)) from None
