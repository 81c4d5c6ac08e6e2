"""Point 19: long texts."""

import random
import unittest

from errorspans.errors import NoError, NotPlain
from errorspans.grammars import Grammar
from errorspans.longtexts import long_error_count, long_span
from errorspans.spans import error_count, spans
from helpers import AB, LETS, NESTS, ODD_VALUES, block, check_arguments_stay, check_error_for_any_value, random_cases, \
    random_grammars, random_text, token

MANY = 10 ** 18
PLAIN = Grammar(("choice", token("a"), block("x")), blocks=(("x", "o", "c", ("repeat", token("a"))),))
THREES = Grammar(("sequence", block("x"), block("y")), blocks=(
    ("x", "o", "c", ("repeat", ("sequence", token("a"), token("a"), token("a")))),
    ("y", "p", "q", ("repeat", ("sequence", token("a"), token("b"), token("a"), token("b"), token("b")))),
))


def written_out(pieces):
    return tuple([word for times, text in pieces for _ in range(times) for word in text])


def plain_words(grammar):
    """Return the tokens of the grammar that neither begin nor end a block, and one that it does not use."""
    brackets = [word for _, first, last, _ in grammar.blocks for word in (first, last)]
    return [word for word in (*grammar.tokens(), "z") if word not in brackets]


def random_pieces(chance, grammar, most):
    """Return up to six pieces; those with open and close tokens come at most once."""
    words = plain_words(grammar)
    found = []
    for _ in range(chance.randint(0, 6)):
        if chance.random() < 0.6:
            text = tuple([chance.choice(words) for _ in range(chance.randint(0, 4))])
            found.append((chance.randint(0, most), text))
        else:
            found.append((chance.randint(0, 1), random_text(chance, grammar, 5)))
    return tuple(found)


class LongCase(unittest.TestCase):

    def check(self, grammar, pieces):
        """Check the pieces by the text written out."""
        found = spans(grammar, written_out(pieces))
        with self.subTest(item=grammar.item, blocks=grammar.blocks, pieces=pieces):
            self.assertEqual(long_error_count(grammar, pieces), len(found))
            for number, span in enumerate(found):
                self.assertEqual(long_span(grammar, pieces, number), span)
            for number in (-1, len(found)):
                with self.assertRaises(NoError):
                    long_span(grammar, pieces, number)


class SmallPiecesTest(LongCase):

    def test_nothing(self):
        for pieces in ((), ((0, ()),), ((1, ()),), ((MANY, ()),), ((0, ("a", "z")),), ((0, ("o",)), (MANY, ()))):
            for grammar in (AB, LETS, NESTS):
                self.assertEqual(long_error_count(grammar, pieces), 0)
                with self.assertRaises(NoError):
                    long_span(grammar, pieces, 0)

    def test_times_of_0_and_1(self):
        self.check(AB, ((1, ("a",)), (0, ("b",)), (1, ("a", "b"))))
        self.check(NESTS, ((1, ("o", "o")), (0, ("c", "q")), (1, ("c",)), (1, ()), (1, ("c",))))
        self.check(NESTS, ((1, ("p", "o")), (0, ("a",)), (1, ("c", "q", "a"))))

    def test_repeated_pieces(self):
        for times in range(8):
            for text in (("a",), ("b",), ("a", "b"), ("b", "a"), ("z",), ("a", "z"), ("a", "a", "b"), ("b", "b", "a", "b")):
                self.check(AB, ((times, text),))
                self.check(AB, ((1, ("b",)), (times, text), (1, ("a",))))
                self.check(NESTS, ((1, ("o", "p", "b")), (times, text), (1, ("q", "c"))))

    def test_sets_that_come_by_turns(self):
        for times in range(20):
            self.check(THREES, ((1, ("o",)), (times, ("a",)), (1, ("c", "p", "q"))))
            self.check(THREES, ((1, ("z",)), (times, ("a",)), (1, ("b", "q"))))
            self.check(THREES, ((1, ("o", "c", "p")), (times, ("a", "b")), (1, ("b", "q"))))
            self.check(THREES, ((1, ("p", "a", "b")), (times, ("b", "a")), (times, ("a",))))

    def test_random_pieces(self):
        chance = random.Random(121)
        for grammar in [AB, LETS, NESTS, PLAIN, THREES, *random_grammars(120, 122)]:
            for _ in range(4):
                self.check(grammar, random_pieces(chance, grammar, 9))

    def test_many_times(self):
        chance = random.Random(123)
        for grammar in [AB, LETS, NESTS, THREES, *random_grammars(30, 124)]:
            for _ in range(2):
                words = plain_words(grammar)
                pieces = tuple([(chance.randint(60, 140), tuple([chance.choice(words) for _ in range(chance.randint(1, 3))]))])
                pieces = ((1, random_text(chance, grammar, 4)), *pieces, (1, random_text(chance, grammar, 4)))
                found = spans(grammar, written_out(pieces))
                self.assertEqual(long_error_count(grammar, pieces), len(found))
                for number in {0, 1, 2, len(found) // 2, len(found) - 2, len(found) - 1} & set(range(len(found))):
                    self.assertEqual(long_span(grammar, pieces, number), found[number])

    def test_texts_in_one_piece(self):
        for grammar, text in random_cases(125, 60, 4, 12):
            self.check(grammar, ((1, text),))
            self.check(grammar, ((1, text[:5]), (0, text), (1, text[5:])))

    def test_pieces_cut_otherwise(self):
        chance = random.Random(126)
        for grammar in [AB, NESTS, THREES, *random_grammars(40, 127)]:
            words = plain_words(grammar)
            text = tuple([chance.choice(words) for _ in range(chance.randint(1, 3))])
            ways = (((12, text),), ((6, text * 2),), ((4, text * 3),), ((5, text), (7, text)), ((1, text * 12),),
                    ((1, text[:1]), (11, text[1:] + text[:1]), (1, text[1:])), tuple([(1, text)] * 12))
            counts = {long_error_count(grammar, pieces) for pieces in ways}
            self.assertEqual(counts, {error_count(grammar, text * 12)})
            for number in range(min(counts)):
                self.assertEqual(len({long_span(grammar, pieces, number) for pieces in ways}), 1)


class LongPiecesTest(LongCase):

    def test_errors_in_each_time(self):
        self.assertEqual(long_error_count(AB, ((MANY, ("a",)),)), MANY // 2)
        self.assertEqual(long_error_count(AB, ((MANY - 1, ("a",)),)), MANY // 2)
        self.assertEqual(long_error_count(AB, ((MANY, ("a", "b")),)), 0)
        self.assertEqual(long_error_count(AB, ((MANY, ("z",)),)), MANY)
        self.assertEqual(long_error_count(AB, ((MANY, ("z",) * 40),) * 20), MANY * 800)
        self.assertEqual(long_error_count(AB, ((MANY, ("b", "a")),)), 2)

    def test_spans_at_both_ends_and_between(self):
        pieces = ((MANY, ("z",) * 40),) * 20
        for number in (0, 1, 399, MANY - 1, MANY, 40 * MANY, 800 * MANY - 1):
            self.assertEqual(long_span(AB, pieces, number), (number, number))
        for number in (0, 1, 12345678901234567, MANY // 2 - 1):
            self.assertEqual(long_span(AB, ((MANY, ("a",)),), number), (2 * number + 1, 2 * number + 1))
            self.assertEqual(long_span(AB, ((MANY - 1, ("a",)),), number), (2 * number, 2 * number + 1))
        self.assertEqual(long_span(AB, ((MANY, ("b", "a")),), 0), (0, 0))
        self.assertEqual(long_span(AB, ((MANY, ("b", "a")),), 1), (2 * MANY - 1, 2 * MANY))

    def test_spans_as_long_as_the_text(self):
        self.assertEqual(long_span(PLAIN, ((1, ("o",)), (MANY, ("a",))), 0), (0, MANY + 1))
        self.assertEqual(long_span(PLAIN, ((MANY, ("a",)), (1, ("c",))), 0), (0, MANY))
        self.assertEqual(long_span(PLAIN, ((MANY, ("a",)), (1, ("z",)), (MANY, ("a",)), (1, ("o",))), 1), (2 * MANY + 1, 2 * MANY + 2))
        pieces = ((1, ("o",)), (MANY, ("a",)), (1, ("o",)), (MANY, ("a",)))
        self.assertEqual(long_error_count(PLAIN, pieces), 1)
        self.assertEqual(long_span(PLAIN, pieces, 0), (MANY + 1, MANY + 1))

    def test_sets_that_come_by_turns(self):
        for times in (MANY, MANY - 1, MANY - 2):
            expected = 0 if times in (MANY - 1,) else 1
            self.assertEqual(times % 3 == 0, expected == 0)
            self.assertEqual(long_error_count(THREES, ((1, ("o",)), (times, ("a",)), (1, ("c", "p", "q")))), expected)
        self.assertEqual(long_span(THREES, ((1, ("o",)), (MANY, ("a",)), (1, ("c", "p", "q"))), 0), (0, MANY + 1))

    def test_the_same_behind_more_times(self):
        """Where the errors of a text come by turns, many more times have as many more of them, moved along."""
        chance = random.Random(128)
        for grammar in [AB, LETS, NESTS, THREES, *random_grammars(60, 129)]:
            words = plain_words(grammar)
            text = tuple([chance.choice(words) for _ in range(chance.randint(1, 4))])
            head, tail = random_text(chance, grammar, 4), random_text(chance, grammar, 4)
            # The turns of these small grammars divide 60.
            few, more, most = [((1, head), (times, text), (1, tail)) for times in (120, 180, 120 + 60 * 10 ** 16)]
            count, step = long_error_count(grammar, few), long_error_count(grammar, more) - long_error_count(grammar, few)
            with self.subTest(item=grammar.item, blocks=grammar.blocks, pieces=most):
                self.assertEqual(long_error_count(grammar, more), error_count(grammar, written_out(more)))
                total = long_error_count(grammar, most)
                self.assertEqual(total, count + step * 10 ** 16)
                if step:
                    moved = 60 * 10 ** 16 * len(text)
                    least, greatest = long_span(grammar, few, count - 1)
                    self.assertEqual(long_span(grammar, most, total - 1), (least + moved, greatest + moved))

    def test_blocks_deeper_than_40(self):
        opening, closing = (1, ("o",) * 40), (1, ("c",) * 40)
        for many in (1, 2, 9):
            self.assertEqual(long_error_count(NESTS, (opening,) * many + ((MANY, ("a",)),) + (closing,) * many), 0)
            pieces = (opening,) * many + ((MANY, ("a", "a")),) + (closing,) * (many + 1)
            self.assertEqual(long_error_count(NESTS, pieces), 1)
            depth = 40 * many
            self.assertEqual(long_span(NESTS, pieces, 0), (0, 2 * depth + 2 * MANY))
            with self.assertRaises(NoError):
                long_span(NESTS, pieces, 1)
        self.check(NESTS, (opening, opening, closing, (1, ("c",) * 39)))
        self.check(NESTS, (opening, opening, (1, ("q",)), closing))

    def test_many_tokens_in_each_piece(self):
        pieces = ((MANY, ("a", "b") * 20), (1, ("a",) * 40), (MANY, ("a", "b") * 19 + ("z", "z")), (0, ("z",))) * 5
        count = long_error_count(AB, pieces)
        # Each of the five parts ends with a wrong token, so the next one is read as if it stood alone.
        self.assertEqual(count, long_error_count(AB, pieces[:4]) * 5)
        least, greatest = long_span(AB, pieces, count - 1)
        length = sum([times * len(text) for times, text in pieces])
        self.assertEqual((least, greatest), (length - 1, length - 1))


class NotPlainTest(unittest.TestCase):

    def test_first_piece_that_is_not_plain(self):
        for times in (2, 3, MANY):
            for word in ("o", "c", "p", "q"):
                for text in ((word,), ("a", word), (word, "z")):
                    for ahead in range(3):
                        pieces = ((1, ("o", "c")),) * ahead + ((times, text), (times, text), (2, ("a",)))
                        for call in (lambda: long_error_count(NESTS, pieces), lambda: long_span(NESTS, pieces, 0),
                                     lambda: long_span(NESTS, pieces, None)):
                            with self.assertRaises(NotPlain) as caught:
                                call()
                            self.assertEqual(vars(caught.exception), {"piece": ahead})

    def test_tokens_of_blocks_that_are_never_read(self):
        grammar = Grammar(token("a"), blocks=(("x", "o", "c", token("b")),))
        with self.assertRaises(NotPlain) as caught:
            long_error_count(grammar, ((2, ("a",)), (2, ("c",))))
        self.assertEqual(caught.exception.piece, 1)
        self.assertEqual(long_error_count(grammar, ((2, ("b",)), (2, ("x",)))), 4)

    def test_times_of_0_and_1(self):
        for times in (0, 1):
            self.assertEqual(long_error_count(NESTS, ((times, ("o", "a", "c")), (times, ("p", "q", "c")))), times)
        # The tokens of blocks of other grammars are plain.
        self.assertEqual(long_error_count(AB, ((2, ("o", "c")),)), 4)


class NoErrorTest(unittest.TestCase):

    def test_any_value(self):
        pieces = ((3, ("a",)),)
        others = [value for value in ODD_VALUES if type(value) is not int] + ["0", "1", (0,), [0], {0: 0}, {1: 2}]
        wrong = [-1, -2, 2, 3, MANY, -MANY, *others]
        check_error_for_any_value(self, lambda value: long_span(AB, pieces, value), NoError, "number", wrong)
        check_error_for_any_value(self, lambda value: long_span(AB, (), value), NoError, "number", [0, *wrong])
        wrong = [-1, MANY // 2, MANY, *others]
        check_error_for_any_value(self, lambda value: long_span(AB, ((MANY, ("a",)),), value), NoError, "number", wrong)

    def test_by_name(self):
        pieces = ((3, ("a",)),)
        self.assertEqual(long_error_count(pieces=pieces, grammar=AB), 2)
        self.assertEqual(long_span(number=1, pieces=pieces, grammar=AB), (2, 3))

    def test_arguments_stay(self):
        pieces = ((1, ("o", "z")), (5, ("a",)), (0, ()), (1, ("q",)))
        check_arguments_stay(self, long_error_count, NESTS, pieces)
        check_arguments_stay(self, long_span, NESTS, pieces, 0)


if __name__ == "__main__":
    unittest.main()
