"""Point 5: expressions."""

import random
import unittest

from errorspans.expressions import is_expression, leaves, may_end, next_leaves
from helpers import block, check_for_any_value, random_expression, token

A, B, C, D = token("a"), token("b"), token("c"), token("d")


def deep(kind, depth):
    """Return an expression that is nested so many deep."""
    value = A
    for _ in range(depth - 1):
        value = (kind, value) if kind in ("repeat", "optional") else (kind, value, B)
    return value


def numbered_texts(expression, first, limit):
    """Return the set of the tuples of at most limit leaf numbers that the expression may read."""
    kind = expression[0]
    if kind in ("token", "block"):
        return {(first,)}
    parts = []
    for part in expression[1:]:
        parts.append(numbered_texts(part, first, limit))
        first += len(leaves(part))
    if kind == "choice":
        return set().union(*parts)
    if kind == "optional":
        return {()} | parts[0]
    found = {()}
    if kind == "sequence":
        for part in parts:
            found = {head + tail for head in found for tail in part if len(head + tail) <= limit}
        return found
    newest = {()}
    while newest:
        newest = {head + tail for head in newest for tail in parts[0] if len(head + tail) <= limit} - found
        found |= newest
    return found


class FormTest(unittest.TestCase):

    def test_leaves_and_kinds(self):
        for value in (A, block("list"), ("sequence", A, B), ("choice", A, block("b")), ("repeat", A), ("optional", A)):
            self.assertIs(is_expression(value), True, value)

    def test_names_and_tokens_by_their_form(self):
        for kind in ("token", "block"):
            for word in ("", "A", "abcdefghi", "a b", None, 1, True, ("a",), ["a"], {}):
                self.assertIs(is_expression((kind, word)), False, (kind, word))
            self.assertIs(is_expression((kind, "abcdefgh")), True)

    def test_numbers_of_parts(self):
        for kind in ("sequence", "choice"):
            for count in range(10):
                self.assertIs(is_expression((kind, *[A] * count)), 2 <= count <= 6, (kind, count))
        for kind in ("repeat", "optional"):
            for count in range(5):
                self.assertIs(is_expression((kind, *[A] * count)), count == 1, (kind, count))
        for kind in ("token", "block"):
            for count in range(4):
                self.assertIs(is_expression((kind, *["a"] * count)), count == 1, (kind, count))

    def test_numbers_of_leaves(self):
        six = ("choice", A, A, A, A, A, A)
        four = ("sequence", A, B, C, D)
        self.assertIs(is_expression(("sequence", six, six, four)), True)
        self.assertIs(is_expression(("sequence", six, six, four, A)), False)
        self.assertIs(is_expression(("sequence", six, six, ("sequence", A, B, C, D, A))), False)
        self.assertIs(is_expression(("repeat", ("choice", four, four, four, four))), True)
        self.assertIs(is_expression(("repeat", ("choice", four, four, four, four, B))), False)

    def test_depths(self):
        for kind in ("repeat", "optional", "sequence", "choice"):
            for depth in range(1, 12):
                self.assertIs(is_expression(deep(kind, depth)), depth <= 8, (kind, depth))
        self.assertIs(is_expression(("choice", A, deep("repeat", 7))), True)
        self.assertIs(is_expression(("choice", A, deep("repeat", 8))), False)

    def test_a_wrong_part_at_any_place(self):
        for wrong in (None, "a", (), ["token", "a"], ("token", "A"), ("word", "a"), {"token": "a"}, 1, True):
            for value in (("repeat", wrong), ("optional", wrong), ("sequence", wrong, A), ("sequence", A, wrong),
                          ("choice", A, B, wrong), ("repeat", ("sequence", A, ("optional", wrong)))):
                self.assertIs(is_expression(value), False, value)

    def test_wrong_kinds(self):
        for kind in ("", "Token", "tokens", "seq", None, 1, True, ("token",), ["token"], {}):
            for value in ((kind,), (kind, "a"), (kind, A), (kind, A, B)):
                self.assertIs(is_expression(value), False, value)
        self.assertIs(is_expression(("sequence", A, B, "c")), False)
        self.assertIs(is_expression(["sequence", A, B]), False)

    def test_any_value(self):
        check_for_any_value(self, is_expression)
        check_for_any_value(self, is_expression, [A, ("repeat", A)], expected=True)

    def test_a_value_that_shares_its_parts(self):
        value = A
        for _ in range(29):
            value = ("choice", value, value, value, value, value, value)
        self.assertIs(is_expression(value), False)

    def test_by_name(self):
        self.assertIs(is_expression(value=A), True)


class LeavesTest(unittest.TestCase):

    def test_from_left_to_right(self):
        self.assertEqual(leaves(A), (A,))
        self.assertEqual(leaves(block("x")), (block("x"),))
        value = ("sequence", A, ("choice", ("repeat", block("x")), B), ("optional", ("sequence", A, C)))
        self.assertEqual(leaves(value), (A, block("x"), B, A, C))
        self.assertEqual(leaves(expression=("choice", A, block("b"))), (A, block("b")))

    def test_beyond_the_limits(self):
        self.assertEqual(leaves(deep("repeat", 12)), (A,))
        self.assertEqual(len(leaves(("sequence", *[A] * 20))), 20)


class OrderTest(unittest.TestCase):

    def check(self, expression, firsts, behind, ends):
        """Check next_leaves for 0 and then each leaf, and may_end for the numbers in ends alone."""
        count = len(leaves(expression))
        self.assertEqual(count, len(behind))
        self.assertEqual([next_leaves(expression, number) for number in range(count + 1)], [firsts, *behind])
        for number in range(count + 1):
            self.assertIs(may_end(expression, number), number in ends, (expression, number))

    def test_leaf(self):
        self.check(A, (1,), [()], {1})

    def test_sequence(self):
        self.check(("sequence", A, B, C), (1,), [(2,), (3,), ()], {3})

    def test_choice(self):
        self.check(("choice", A, B, C), (1, 2, 3), [(), (), ()], {1, 2, 3})

    def test_repeat_and_optional(self):
        self.check(("repeat", A), (1,), [(1,)], {0, 1})
        self.check(("optional", A), (1,), [()], {0, 1})

    def test_optional_parts_of_a_sequence(self):
        self.check(("sequence", ("optional", A), B), (1, 2), [(2,), ()], {2})
        self.check(("sequence", A, ("optional", B), ("repeat", C), D), (1,), [(2, 3, 4), (3, 4), (3, 4), ()], {4})
        self.check(("sequence", ("optional", A), ("repeat", B), ("optional", C)),
                   (1, 2, 3), [(2, 3), (2, 3), ()], {0, 1, 2, 3})

    def test_repeated_sequence(self):
        self.check(("repeat", ("sequence", A, B)), (1,), [(2,), (1,)], {0, 2})
        self.check(("repeat", ("sequence", ("optional", A), B, ("optional", C))),
                   (1, 2), [(2,), (1, 2, 3), (1, 2)], {0, 2, 3})

    def test_repeats_in_one_another(self):
        self.check(("repeat", ("repeat", A)), (1,), [(1,)], {0, 1})
        self.check(("repeat", ("sequence", ("repeat", A), ("repeat", B))), (1, 2), [(1, 2), (1, 2)], {0, 1, 2})
        self.check(("repeat", ("choice", A, ("sequence", B, ("repeat", C)))),
                   (1, 2), [(1, 2), (1, 2, 3), (1, 2, 3)], {0, 1, 2, 3})

    def test_choice_with_what_may_be_empty(self):
        self.check(("sequence", ("choice", A, ("optional", B)), C), (1, 2, 3), [(3,), (3,), ()], {3})
        self.check(("choice", ("repeat", A), ("sequence", B, C)), (1, 2), [(1,), (3,), ()], {0, 1, 3})
        self.check(("optional", ("choice", ("sequence", A, ("optional", B)), ("optional", ("repeat", C)))),
                   (1, 3), [(2,), (), (3,)], {0, 1, 2, 3})

    def test_blocks_are_leaves(self):
        self.check(("sequence", block("x"), ("repeat", ("sequence", A, block("x")))),
                   (1,), [(2,), (3,), (2,)], {1, 3})

    def test_answers(self):
        self.assertIs(type(next_leaves(("choice", A, B), 0)), tuple)
        self.assertEqual(next_leaves(expression=("sequence", A, B), number=1), (2,))
        self.assertIs(may_end(expression=("sequence", A, B), number=2), True)

    def test_as_the_texts_of_numbers_say(self):
        chance = random.Random(5)
        for _ in range(300):
            expression = random_expression(chance, 4, ["a", "b"], ["x"])
            count = len(leaves(expression))
            if count > 4:
                continue
            # No text needs a leaf twice ahead of a pair of leaves, nor twice behind it, to show this pair.
            texts = numbered_texts(expression, 1, 2 * count)
            for number in range(count + 1):
                with self.subTest(expression=expression, number=number):
                    padded = [(0,) + text for text in texts]
                    pairs = {(text[at], text[at + 1]) for text in padded for at in range(len(text) - 1)}
                    behind = tuple(sorted([right for left, right in pairs if left == number]))
                    self.assertEqual(next_leaves(expression, number), behind)
                    self.assertIs(may_end(expression, number), any([text[-1] == number for text in padded]))

    def test_repeats_as_deep_as_may_be(self):
        value = ("choice", *[("choice", A, B, C, D)] * 4)
        for _ in range(5):
            value = ("repeat", value)
        everything = tuple(range(1, 17))
        self.check(value, everything, [everything] * 16, set(range(17)))


if __name__ == "__main__":
    unittest.main()
