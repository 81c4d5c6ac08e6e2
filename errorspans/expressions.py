"""Expressions: their form, their leaves, and which leaves may come behind which."""

from errorspans.tokens import is_token

LEAF_KINDS = ("token", "block")
MOST_LEAVES = 16
MOST_LEVELS = 8
MOST_PARTS = 6


class Shape:
    """Which leaves of an expression come first, last, and right behind one another, by their numbers."""

    def __init__(self, empty, firsts, lasts, pairs):
        self.empty = empty
        self.firsts = firsts
        self.lasts = lasts
        self.pairs = pairs


def is_expression(value):
    """Return whether any value is an expression."""
    return 1 <= count_leaves(value, MOST_LEVELS) <= MOST_LEAVES


def count_leaves(value, levels):
    """Return how many leaves a value has, 0 if it is not formed like an expression of at most so many levels."""
    if levels == 0 or not isinstance(value, tuple) or len(value) < 2:
        return 0
    if value[0] in LEAF_KINDS:
        return 1 if len(value) == 2 and is_token(value[1]) else 0
    if not has_fitting_parts(value):
        return 0
    total = 0
    for part in value[1:]:
        count = count_leaves(part, levels - 1)
        if count == 0:
            return 0
        total += count
        # A value may hold the same parts again and again; counting all of them would take long.
        if total > MOST_LEAVES:
            return total
    return total


def has_fitting_parts(value):
    """Return whether a tuple begins with a kind of expression that has parts, and has as many as this kind may."""
    if value[0] in ("repeat", "optional"):
        return len(value) == 2
    return value[0] in ("sequence", "choice") and 2 <= len(value) - 1 <= MOST_PARTS


def leaves(expression):
    """Return the tuple of the leaves of an expression, by their numbers."""
    if expression[0] in LEAF_KINDS:
        return (expression,)
    found = []
    for part in expression[1:]:
        found.extend(leaves(part))
    return tuple(found)


def next_leaves(expression, number):
    """Return the numbers of the leaves that may come right behind that leaf; for 0, of those that may come first."""
    return numbers_behind(shape_of(expression, 1), number)


def may_end(expression, number):
    """Return whether the expression may end behind that leaf; for 0, whether it may be empty."""
    return ends_behind(shape_of(expression, 1), number)


def numbers_behind(shape, number):
    """Return what next_leaves returns, for an expression of that shape."""
    if number == 0:
        return tuple(sorted(shape.firsts))
    return tuple(sorted({right for left, right in shape.pairs if left == number}))


def ends_behind(shape, number):
    """Return what may_end returns, for an expression of that shape."""
    return shape.empty if number == 0 else number in shape.lasts


def shape_of(expression, first):
    """Return the shape of an expression whose first leaf has the number first."""
    if expression[0] in LEAF_KINDS:
        return Shape(False, (first,), (first,), ())
    shapes = shapes_of_parts(expression, first)
    joined = shapes[0]
    for shape in shapes[1:]:
        joined = in_sequence(joined, shape) if expression[0] == "sequence" else in_choice(joined, shape)
    if expression[0] == "repeat":
        # Behind one time the next one begins.
        return Shape(True, joined.firsts, joined.lasts, joined.pairs + crossed(joined.lasts, joined.firsts))
    if expression[0] == "optional":
        return Shape(True, joined.firsts, joined.lasts, joined.pairs)
    return joined


def shapes_of_parts(expression, first):
    """Return the shapes of the parts of an expression, numbered on from part to part."""
    shapes = []
    for part in expression[1:]:
        shapes.append(shape_of(part, first))
        first += len(leaves(part))
    return shapes


def in_sequence(left, right):
    """Return the shape of two expressions, one behind the other."""
    firsts = left.firsts + right.firsts if left.empty else left.firsts
    lasts = left.lasts + right.lasts if right.empty else right.lasts
    pairs = left.pairs + right.pairs + crossed(left.lasts, right.firsts)
    return Shape(left.empty and right.empty, firsts, lasts, pairs)


def in_choice(left, right):
    """Return the shape of one of two expressions."""
    empty = left.empty or right.empty
    return Shape(empty, left.firsts + right.firsts, left.lasts + right.lasts, left.pairs + right.pairs)


def crossed(lasts, firsts):
    """Return the pairs of each of the one with each of the other."""
    return tuple([(last, first) for last in lasts for first in firsts])
