"""Grammars: an item, and the blocks that may stand in it and in one another."""

from errorspans.errors import BadGrammar, NoBlock
from errorspans.expressions import LEAF_KINDS, is_expression, leaves
from errorspans.rules import Rules
from errorspans.tokens import is_token

MOST_BLOCKS = 4


class Grammar:
    """An item and blocks (name, open token, close token, expression), ascending by name.

    rules is what reading needs of them; it is made here, once, because each step of reading asks for it.
    """

    def __init__(self, item, *, blocks=()):
        if not is_expression(item):
            raise BadGrammar("item")
        if not are_blocks(blocks):
            raise BadGrammar("blocks")
        if not are_apart(bracket_tokens(blocks), named_leaves("token", item, blocks)):
            raise BadGrammar("tokens")
        names = [block[0] for block in blocks]
        if not all([name in names for name in named_leaves("block", item, blocks)]):
            raise BadGrammar("names")
        self.item = item
        self.blocks = blocks
        self.rules = Rules(item, blocks)

    def __eq__(self, other):
        return isinstance(other, Grammar) and self.item == other.item and self.blocks == other.blocks

    def tokens(self):
        """Return the ascending tuple of all tokens of the expressions and blocks."""
        found = bracket_tokens(self.blocks) + named_leaves("token", self.item, self.blocks)
        return tuple(sorted(set(found)))

    def block(self, name):
        """Return the block of that name, which may be any value."""
        for block in self.blocks:
            if block[0] == name:
                return block
        raise NoBlock(name)


def are_blocks(value):
    """Return whether any value is a tuple of not too many blocks, ascending by name."""
    if not isinstance(value, tuple) or len(value) > MOST_BLOCKS:
        return False
    if not all([is_block(block) for block in value]):
        return False
    return all([value[at][0] < value[at + 1][0] for at in range(len(value) - 1)])


def is_block(value):
    """Return whether any value is a block by its form."""
    if not isinstance(value, tuple) or len(value) != 4:
        return False
    return all([is_token(part) for part in value[:3]]) and is_expression(value[3])


def bracket_tokens(blocks):
    """Return the list of the open and close tokens of all blocks."""
    return [token for block in blocks for token in block[1:3]]


def named_leaves(kind, item, blocks):
    """Return the list of what the leaves of that kind name, in the item and in all blocks."""
    expressions = [item] + [block[3] for block in blocks]
    return [leaf[1] for expression in expressions for leaf in leaves(expression) if leaf[0] == kind]


def are_apart(brackets, plain):
    """Return whether no open or close token stands twice among them or is a plain token, too."""
    return len(set(brackets)) == len(brackets) and not any([token in plain for token in brackets])


def mirrored(grammar):
    """Return the grammar by which the reversed texts are valid."""
    blocks = [(name, last, first, mirrored_expression(inner)) for name, first, last, inner in grammar.blocks]
    return Grammar(mirrored_expression(grammar.item), blocks=tuple(blocks))


def mirrored_expression(expression):
    """Return the expression with the parts of each sequence in reversed order."""
    if expression[0] in LEAF_KINDS:
        return expression
    parts = [mirrored_expression(part) for part in expression[1:]]
    if expression[0] == "sequence":
        parts = parts[::-1]
    return (expression[0],) + tuple(parts)
