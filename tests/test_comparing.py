"""Point 20: two grammars."""

import itertools
import random
import unittest

from errorspans.comparing import difference, unlike_text
from errorspans.errors import UnlikeBlocks
from errorspans.expressions import is_expression
from errorspans.grammars import Grammar, mirrored
from errorspans.spans import error_count
from errorspans.tokens import END, START
from errorspans.validity import is_valid
from errorspans.windows import is_good, is_window
from helpers import AB, LETS, NESTS, all_tuples, block, check_arguments_stay, random_expression, random_grammars, token

A, B, D = token("a"), token("b"), token("d")


def sequence(*parts):
    return ("sequence", *parts)


def choice(*parts):
    return ("choice", *parts)


def repeat(part):
    return ("repeat", part)


def optional(part):
    return ("optional", part)


def with_block(item, inner):
    return Grammar(item, blocks=(("x", "o", "c", inner),))


def windows_of_length(words, length):
    """Return all windows of so many of these words and the markers."""
    found = list(itertools.product(words, repeat=length))
    if length >= 1:
        inner = list(itertools.product(words, repeat=length - 1))
        found += [(START, *body) for body in inner] + [(*body, END) for body in inner]
    if length >= 2:
        found += [(START, *body, END) for body in itertools.product(words, repeat=length - 2)]
    return found


def slow_length(one, other, limit):
    """Return the length of a shortest window of up to limit elements that just one grammar finds good, None without."""
    words = sorted(set(one.tokens()) | set(other.tokens()))
    for length in range(limit + 1):
        for window in windows_of_length(words, length):
            if is_good(one, window) != is_good(other, window):
                return length
    return None


def changed_expression(chance, expression, plain, names):
    """Return the expression with another one at some place, or written otherwise."""
    if expression[0] in ("token", "block") or chance.random() < 0.2:
        kind = chance.choice(("new", "optional", "repeat", "same"))
        if kind == "new":
            return random_expression(chance, 2, plain, names)
        return expression if kind == "same" else (kind, expression)
    at = chance.randrange(1, len(expression))
    return expression[:at] + (changed_expression(chance, expression[at], plain, names),) + expression[at + 1:]


def changed_grammar(chance, grammar):
    """Return the grammar with a change in one of its expressions."""
    names = [name for name, *_ in grammar.blocks]
    expressions = [grammar.item] + [inner for *_, inner in grammar.blocks]
    at = chance.randrange(len(expressions))
    expressions[at] = changed_expression(chance, expressions[at], ["a", "b"], names)
    blocks = [kept[:3] + (inner,) for kept, inner in zip(grammar.blocks, expressions[1:])]
    return Grammar(expressions[0], blocks=tuple(blocks))


class ComparingCase(unittest.TestCase):

    def check_unlike(self, one, other, length):
        """Check that the grammars differ by windows of that length and none shorter."""
        for left, right in ((one, other), (other, one)):
            with self.subTest(left=(left.item, left.blocks), right=(right.item, right.blocks)):
                window = difference(left, right)
                self.assertIs(is_window(window), True)
                self.assertNotEqual(is_good(left, window), is_good(right, window))
                self.assertEqual(len(window), length)
                text = unlike_text(left, right)
                self.assertIs(type(text), tuple)
                self.assertNotEqual(error_count(left, text), error_count(right, text))

    def check_alike(self, one, other):
        for left, right in ((one, other), (other, one)):
            with self.subTest(left=(left.item, left.blocks), right=(right.item, right.blocks)):
                self.assertIs(difference(left, right), None)
                self.assertIs(unlike_text(left, right), None)


class AlikeTest(ComparingCase):

    def test_equal_grammars(self):
        for grammar in (AB, LETS, NESTS, *random_grammars(40, 131)):
            self.check_alike(grammar, grammar)
            self.check_alike(grammar, Grammar(grammar.item, blocks=grammar.blocks))
            self.check_alike(grammar, mirrored(mirrored(grammar)))

    def test_items_written_otherwise(self):
        for one, other in (
            (A, repeat(A)), (A, optional(A)), (A, sequence(A, optional(A))), (A, choice(A, A)), (A, sequence(repeat(A), A)),
            (choice(A, B), choice(B, A)), (choice(A, B), repeat(choice(repeat(A), repeat(B)))),
            (sequence(A, B), sequence(A, optional(sequence(B, A)), B)), (sequence(A, sequence(B, D)), sequence(sequence(A, B), D)),
            (sequence(A, choice(B, D)), choice(sequence(A, B), sequence(A, D))),
            (sequence(A, A), choice(sequence(A, A), sequence(A, A, A, A))),
        ):
            self.check_alike(Grammar(one), Grammar(other))

    def test_items_that_are_more_texts_but_the_same_valid_ones(self):
        # Six and fifteen of them are made of threes, and items follow one another.
        three = sequence(A, A, A)
        self.check_alike(Grammar(three), Grammar(choice(three, sequence(three, three))))
        self.check_unlike(Grammar(three), Grammar(choice(three, sequence(A, A))), 4)

    def test_blocks_written_otherwise(self):
        self.check_alike(with_block(block("x"), repeat(A)), with_block(block("x"), optional(sequence(A, repeat(A)))))
        self.check_alike(with_block(choice(A, block("x")), choice(A, block("x"))),
                         with_block(repeat(choice(block("x"), A)), choice(block("x"), A, block("x"))))

    def test_blocks_that_are_never_read(self):
        self.check_alike(with_block(A, A), with_block(A, B))
        self.check_alike(with_block(A, A), with_block(choice(A, block("x")), block("x")))
        self.check_alike(with_block(block("x"), block("x")), with_block(block("x"), sequence(A, block("x"))))
        self.check_alike(with_block(block("x"), block("x")), with_block(sequence(A, block("x")), sequence(B, block("x"))))
        self.check_alike(with_block(choice(A, sequence(B, block("x"))), block("x")), with_block(A, A))

    def test_tokens_that_no_valid_text_has(self):
        one = with_block(choice(A, sequence(token("k"), block("x"))), block("x"))
        self.check_alike(one, with_block(A, token("l")))


class UnlikeTest(ComparingCase):

    def test_tokens(self):
        self.check_unlike(Grammar(A), Grammar(B), 1)
        self.check_unlike(Grammar(A), Grammar(choice(A, B)), 1)
        self.check_unlike(Grammar(A), with_no_block(D), 1)

    def test_items(self):
        self.check_unlike(AB, Grammar(sequence(A, optional(B))), 2)
        self.check_unlike(AB, Grammar(sequence(B, A)), 2)
        self.check_unlike(Grammar(choice(A, B)), AB, 2)
        self.check_unlike(Grammar(sequence(A, A)), Grammar(A), 3)
        self.check_unlike(Grammar(sequence(A, A, A)), Grammar(sequence(A, A)), 4)
        self.check_unlike(Grammar(sequence(A, B)), Grammar(sequence(A, B, A, B)), 4)

    def test_only_with_both_markers(self):
        for count in (2, 3, 4, 5, 6):
            one, other = Grammar(A), Grammar(sequence(*[A] * count))
            self.check_unlike(one, other, 3)
            self.assertEqual(difference(one, other), (START, "a", END))

    def test_blocks(self):
        self.check_unlike(with_block(block("x"), A), with_block(block("x"), B), 1)
        self.check_unlike(with_block(block("x"), A), with_block(block("x"), repeat(A)), 2)
        self.check_unlike(with_block(A, A), with_block(choice(A, block("x")), A), 1)
        self.check_unlike(with_block(block("x"), choice(A, block("x"))), with_block(block("x"), A), 2)
        self.check_unlike(with_block(choice(A, block("x")), A), with_block(sequence(A, block("x")), A), 2)

    def test_the_inner_text_of_whole_blocks(self):
        one = with_block(sequence(A, block("x"), B), sequence(A, A))
        other = with_block(choice(sequence(A, block("x"), B), sequence(A, block("x"), B, A, block("x"), B)), sequence(A, A))
        self.check_alike(one, other)
        # What comes behind the block depends on what stood ahead of it.
        ways = [sequence(token(word), block("x"), token(word)) for word in ("a", "b")]
        mixed = [sequence(token(word), block("x"), token(last)) for word, last in (("a", "b"), ("b", "a"))]
        for inner, length in ((optional(D), 4), (D, 5), (sequence(D, D, D), 7)):
            self.check_unlike(with_block(choice(*ways), inner), with_block(choice(*mixed), inner), length)

    def test_the_shortest_whole_block_has_blocks(self):
        def grammar(words, many):
            ways = [sequence(token(word), block("x"), token(last)) for word, last in words]
            return Grammar(choice(*ways), blocks=(
                ("x", "o", "c", choice(block("y"), sequence(*[D] * many))), ("y", "p", "q", optional(block("x"))),
            ))

        for many in (3, 4, 6):
            one, other = grammar((("a", "a"), ("b", "b")), many), grammar((("a", "b"), ("b", "a")), many)
            self.check_unlike(one, other, 6)
            self.assertEqual(difference(one, other)[1:-1], ("o", "p", "q", "c"))

    def test_blocks_whose_first_leaf_is_never_read(self):
        def grammar(words):
            ways = [sequence(token(word), block("x"), token(last)) for word, last in words]
            return Grammar(choice(*ways), blocks=(
                ("x", "o", "c", choice(block("y"), sequence(D, D))), ("y", "p", "q", block("y")),
            ))

        self.check_unlike(grammar((("a", "a"), ("b", "b"))), grammar((("a", "b"), ("b", "a"))), 6)

    def test_whole_blocks_that_just_one_grammar_reads(self):
        """The grammars have common blocks only with three tokens, but differ within them earlier."""
        one = with_block(sequence(A, block("x"), A), choice(B, sequence(A, B, A)))
        other = with_block(sequence(A, block("x"), A), choice(D, sequence(A, B, A)))
        self.check_unlike(one, other, 1)
        one = with_block(sequence(A, block("x")), choice(sequence(A, A), sequence(B, A, B)))
        other = with_block(sequence(A, block("x")), choice(sequence(A, B), sequence(B, A, A)))
        self.assertEqual(slow_length(one, other, 5), 3)
        self.check_unlike(one, other, 3)

    def test_deep_within_nested_blocks(self):
        def grammar(inner):
            return Grammar(block("w"), blocks=(
                ("w", "ow", "cw", block("x")), ("x", "ox", "cx", block("y")), ("y", "oy", "cy", block("z")),
                ("z", "oz", "cz", inner),
            ))

        self.check_unlike(grammar(A), grammar(B), 1)
        self.check_unlike(grammar(A), grammar(optional(A)), 2)
        self.check_unlike(grammar(repeat(sequence(A, A))), grammar(repeat(sequence(A, A, A))), 4)
        self.check_alike(grammar(repeat(sequence(A, A))), grammar(optional(sequence(A, repeat(sequence(A, A)), A))))

    def test_a_block_in_itself(self):
        one = with_block(choice(A, block("x")), choice(A, block("x")))
        other = with_block(choice(A, block("x")), choice(A, sequence(block("x"), A)))
        self.check_unlike(one, other, 2)
        # Just outermost blocks may follow one another.
        self.check_unlike(with_block(block("x"), optional(block("x"))), with_block(block("x"), repeat(block("x"))), 4)

    def test_far_from_the_start(self):
        many = sequence(sequence(*[A] * 5), sequence(*[A] * 5), sequence(*[A] * 5))
        one, other = Grammar(repeat(many)), Grammar(repeat(sequence(*[A] * 5)))
        self.assertTrue(is_expression(many))
        self.check_unlike(one, other, 7)
        self.check_unlike(Grammar(sequence(repeat(sequence(*[A] * 6)), B)), Grammar(sequence(repeat(sequence(*[A] * 5)), B)), 7)


def with_no_block(item):
    return Grammar(item, blocks=())


class SecondComputationTest(ComparingCase):

    def test_as_all_short_windows_say(self):
        chance = random.Random(132)
        lengths = []
        for grammar in random_grammars(250, 133):
            other = changed_grammar(chance, grammar)
            limit = 5 if len(set(grammar.tokens() + other.tokens())) <= 4 else 4
            length = slow_length(grammar, other, limit)
            lengths.append(length)
            if length is not None:
                self.check_unlike(grammar, other, length)
            else:
                window = difference(grammar, other)
                if window is not None:
                    self.assertGreater(len(window), limit)
                    self.check_unlike(grammar, other, len(window))
        for length in (None, 1, 2, 3):
            self.assertGreater(lengths.count(length), 5)

    def test_pairs_of_random_grammars(self):
        found = {}
        for grammar in random_grammars(120, 134):
            found.setdefault(tuple([kept[:3] for kept in grammar.blocks]), []).append(grammar)
        for grammars in found.values():
            for one, other in zip(grammars, grammars[1:]):
                window = difference(one, other)
                self.assertEqual(slow_length(one, other, 3), len(window) if window and len(window) <= 3 else None)

    def test_texts_are_valid_by_just_one(self):
        chance = random.Random(135)
        for grammar in random_grammars(100, 136):
            other = changed_grammar(chance, grammar)
            text = unlike_text(grammar, other)
            if text is None:
                for short in all_tuples(grammar.tokens(), 3):
                    self.assertEqual(error_count(grammar, short), error_count(other, short))
            else:
                self.assertNotEqual(is_valid(grammar, text), is_valid(other, text))
                self.assertNotEqual(error_count(grammar, text), error_count(other, text))


class UnlikeBlocksTest(unittest.TestCase):

    def test_names_and_tokens(self):
        kept = ("x", "o", "c", A)
        for blocks in ((), (("y", "o", "c", A),), (("x", "p", "c", A),), (("x", "o", "q", A),), (("x", "c", "o", A),),
                       (kept, ("y", "p", "q", A)), (("w", "p", "q", A), kept)):
            one, other = Grammar(A, blocks=(kept,)), Grammar(A, blocks=blocks)
            for left, right in ((one, other), (other, one)):
                for call in (difference, unlike_text):
                    with self.assertRaises(UnlikeBlocks) as caught:
                        call(left, right)
                    self.assertEqual(vars(caught.exception), {})

    def test_by_name(self):
        self.assertEqual(difference(other=Grammar(B), one=Grammar(A)) in (("a",), ("b",)), True)
        self.assertEqual(unlike_text(other=Grammar(A), one=Grammar(A)), None)

    def test_arguments_stay(self):
        other = Grammar(NESTS.item, blocks=(NESTS.blocks[0], NESTS.blocks[1][:3] + (B,)))
        check_arguments_stay(self, difference, NESTS, other)
        check_arguments_stay(self, unlike_text, NESTS, other)


if __name__ == "__main__":
    unittest.main()
