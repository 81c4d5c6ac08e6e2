"""Point 16: insertions alone."""

import itertools
import random
import unittest

from errorspans.errors import UnknownToken
from errorspans.gaps import apply_insertions, gap_count, gap_spans, insertions, is_gap_solution
from errorspans.grammars import Grammar
from helpers import AB, LETS, NESTS, ODD_VALUES, Oracle, bad_windows, block, check_arguments_stay, \
    check_error_for_any_value, check_for_any_value, cuts, has_known_tokens, known_cases, random_text, \
    random_valid_text, ranges_of, smallest_choices, token

ENDLESS = Grammar(("choice", token("a"), ("sequence", token("b"), block("x"))), blocks=(("x", "o", "c", block("x")),))
NEVER = Grammar(("sequence", token("a"), block("x")), blocks=(("x", "o", "c", block("x")),))
THREE = ("a", "a", "a")


class GapSpansTest(unittest.TestCase):

    def check(self, grammar, text, expected):
        self.assertEqual(gap_spans(grammar, text), expected)
        self.assertIs(type(gap_spans(grammar, text)), tuple)
        self.assertEqual(gap_count(grammar, text), len(expected))
        self.assertIs(type(gap_count(grammar, text)), int)

    def test_valid_texts(self):
        for grammar in (AB, LETS, NESTS, ENDLESS, NEVER):
            self.check(grammar, (), ())
        self.check(AB, ("a", "b") * 200, ())
        self.check(NESTS, ("o",) * 40 + ("c",) * 40, ())

    def test_small_texts(self):
        self.check(AB, ("a",), ((1, 1),))
        self.check(AB, ("b",), ((0, 0),))
        self.check(AB, ("b", "a"), ((0, 0), (2, 2)))
        self.check(AB, ("a", "b", "b"), ((2, 2),))
        self.check(NESTS, ("o", "a", "a"), ((1, 3),))
        self.check(NESTS, ("a", "a", "c"), ((0, 2),))
        self.check(NESTS, ("o",) * 40, ((40, 40),))
        self.check(NESTS, ("o",) * 20 + ("c",) * 21, ((0, 40),))

    def test_as_all_sets_of_gaps_say(self):
        for grammar, text in known_cases(101, 120, 7, 7):
            with self.subTest(item=grammar.item, blocks=grammar.blocks, text=text):
                choices = smallest_choices(len(text) + 1, bad_windows(grammar, text), cuts)
                self.check(grammar, text, ranges_of(choices))

    def test_texts_of_400_tokens(self):
        self.check(AB, ("a",) * 400, tuple([(gap, gap) for gap in range(1, 401)]))
        self.check(AB, ("b",) * 400, tuple([(gap, gap) for gap in range(400)]))
        self.check(NESTS, ("o",) + ("a",) * 399, ((1, 400),))

    def test_by_names(self):
        self.assertEqual(gap_count(grammar=AB, text=THREE), 3)
        self.assertEqual(gap_spans(grammar=AB, text=("a", "a", "b")), ((1, 1),))
        for function in (gap_count, gap_spans, insertions):
            check_arguments_stay(self, function, NESTS, ("o", "a", "q"))


class IsGapSolutionTest(unittest.TestCase):

    def test_solutions(self):
        self.assertIs(is_gap_solution(grammar=AB, text=THREE, value=(1, 2, 3)), True)
        for gap in range(5):
            self.assertIs(is_gap_solution(NESTS, ("o", "a", "a"), (gap,)), gap in (1, 2, 3))

    def test_other_gaps(self):
        for value in ((), (1,), (1, 2), (0, 1, 2), (0, 2, 3), (0, 1, 2, 3), (1, 2, 4), (3, 2, 1), (1, 1, 2), (1, 2, 2, 3),
                      (1, 2, 3, 3), (1, 2, 3, 4), (-1, 1, 2), (1, 2, 10 ** 18), (-(10 ** 18), 2, 3)):
            self.assertIs(is_gap_solution(AB, THREE, value), False, value)

    def test_text_without_errors(self):
        for text in ((), ("a", "b")):
            self.assertIs(is_gap_solution(AB, text, ()), True)
            for value in ([], {}, "", None, 0, False, (0,), (1,), ((),)):
                self.assertIs(is_gap_solution(AB, text, value), False)

    def test_other_kinds(self):
        near = [[1, 2, 3], (True, 2, 3), {1: 1, 2: 2, 3: 3}, ("1", "2", "3"), ((1, 2, 3),), ((1,), (2,), (3,)), (1, 2, None),
                (1, 2, "a"), "123", True, 3]
        check_for_any_value(self, lambda value: is_gap_solution(AB, THREE, value), near)
        check_for_any_value(self, lambda value: is_gap_solution(AB, THREE, value))
        check_for_any_value(self, lambda value: is_gap_solution(AB, (), value))
        check_for_any_value(self, lambda value: is_gap_solution(AB, ("a",), value), [True, (True,), (False,), [1], 1])
        for value in ODD_VALUES:
            if type(value) is not int:
                self.assertIs(is_gap_solution(AB, ("a",), (value,)), False)
                self.assertIs(is_gap_solution(AB, THREE, (1, 2, value)), False)
                self.assertIs(is_gap_solution(AB, THREE, (value, 2, 3)), False)

    def test_as_all_sets_of_gaps_say(self):
        for grammar, text in known_cases(102, 60, 5, 6):
            choices = smallest_choices(len(text) + 1, bad_windows(grammar, text), cuts)
            for many in range(len(text) + 2):
                for value in itertools.combinations(range(len(text) + 1), many):
                    with self.subTest(item=grammar.item, blocks=grammar.blocks, text=text, value=value):
                        self.assertIs(is_gap_solution(grammar, text, value), value in choices)

    def test_arguments_stay(self):
        for value in ((1, 2, 3), [1, 2, 3], {"a": [0]}, ([], {})):
            check_arguments_stay(self, is_gap_solution, AB, THREE, value)

    def test_text_of_400_tokens(self):
        self.assertIs(is_gap_solution(AB, ("a",) * 400, tuple(range(1, 401))), True)
        self.assertIs(is_gap_solution(AB, ("a",) * 400, tuple(range(400))), False)


class InsertionsTest(unittest.TestCase):

    def check(self, grammar, text):
        found = insertions(grammar, text)
        self.assertIs(type(found), tuple)
        self.assertEqual(len(found), gap_count(grammar, text))
        gaps = tuple([gap for gap, _ in found])
        self.assertIs(is_gap_solution(grammar, text, gaps), True)
        for change in found:
            self.assertEqual((type(change), len(change), type(change[0]), type(change[1])), (tuple, 2, int, tuple))
        joined = apply_insertions(text, found)
        self.assertTrue(Oracle(grammar).is_valid(joined))
        # Without the new tokens it is the text again.
        shown, done = [], 0
        for gap, tokens in found:
            shown += joined[len(shown) + done:gap + done]
            done += len(tokens)
        self.assertEqual(tuple(shown) + joined[len(shown) + done:], text)

    def test_valid_texts(self):
        for grammar, text in ((AB, ()), (AB, ("a", "b") * 200), (NESTS, ("o",) * 40 + ("c",) * 40), (NEVER, ())):
            self.assertEqual(insertions(grammar, text), ())

    def test_small_texts(self):
        for text in (("a",), ("b",), ("b", "a"), THREE, ("b", "b", "b", "a", "a")):
            self.check(AB, text)
        for text in (("o",) * 40, ("c",) * 40, ("o", "p", "b", "c", "q"), ("p", "o", "c"), ("q", "p")):
            self.check(NESTS, text)
        for text in (("let",), ("rpar", "lpar"), ("num", "comma"), ("let", "name", "lpar", "rpar", "let")):
            self.check(LETS, text)
        self.assertEqual(insertions(grammar=AB, text=("a", "a", "b")), ((1, ("b",)),))
        self.assertEqual(insertions(AB, ("b", "a")), ((0, ("a",)), (2, ("b",))))

    def test_many_texts(self):
        for grammar, text in known_cases(103, 100, 7, 10):
            with self.subTest(item=grammar.item, blocks=grammar.blocks, text=text):
                self.check(grammar, text)

    def test_texts_of_400_tokens(self):
        chance = random.Random(104)
        for grammar in (AB, LETS, NESTS):
            self.check(grammar, tuple([chance.choice(grammar.tokens()) for _ in range(400)]))
            self.check(grammar, random_valid_text(chance, grammar, 400)[3:400])
            text = random_text(chance, grammar, 400)
            if has_known_tokens(grammar, text):
                self.check(grammar, text)


class ApplyInsertionsTest(unittest.TestCase):

    def test_gaps(self):
        text = ("a", "b", "c")
        for gap in range(4):
            for tokens in ((), ("x",), ("x", "y")):
                self.assertEqual(apply_insertions(text, ((gap, tokens),)), text[:gap] + tokens + text[gap:])
        self.assertEqual(apply_insertions(text, ((0, ("x",)), (1, ("y", "z")), (3, ("x",)))),
                         ("x", "a", "y", "z", "b", "c", "x"))
        self.assertEqual(apply_insertions(text, ((2, ("x",)), (3, ("y",)))), ("a", "b", "x", "c", "y"))

    def test_no_changes(self):
        for text in ((), ("a",), ("a", "b") * 200):
            self.assertEqual(apply_insertions(text, ()), text)

    def test_empty_text(self):
        self.assertEqual(apply_insertions((), ((0, ("a", "b")),)), ("a", "b"))
        self.assertEqual(apply_insertions((), ((0, ()),)), ())

    def test_unknown_tokens(self):
        self.assertEqual(apply_insertions(("z",), ((1, ("q",)),)), ("z", "q"))

    def test_by_names(self):
        found = apply_insertions(text=("a", "a", "b"), changes=((1, ("b",)),))
        self.assertEqual(found, ("a", "b", "a", "b"))
        self.assertIs(type(found), tuple)
        check_arguments_stay(self, apply_insertions, ("a", "a", "b"), ((1, ("b",)),))

    def test_text_of_400_tokens(self):
        self.assertEqual(apply_insertions(("a",) * 400, tuple([(gap, ("b",)) for gap in range(1, 401)])), ("a", "b") * 200 * 2)


class UnknownTokenTest(unittest.TestCase):

    def check(self, grammar, text, word):
        for function in (gap_count, gap_spans, insertions):
            with self.assertRaises(UnknownToken) as caught:
                function(grammar, text)
            self.assertEqual(caught.exception.token, word)
        for value in [*ODD_VALUES, (), (0,), (1,), (0, 1), (1, 2, 3)]:
            with self.assertRaises(UnknownToken) as caught:
                is_gap_solution(grammar, text, value)
            self.assertEqual(caught.exception.token, word)

    def test_tokens_that_the_grammar_does_not_use(self):
        self.check(AB, ("z",), "z")
        self.check(AB, ("a", "b", "unknown"), "unknown")
        self.check(AB, ("a", "a", "y", "z", "b"), "y")
        self.check(AB, ("a", "b") * 199 + ("z", "y"), "z")

    def test_tokens_that_stand_in_no_valid_text(self):
        for word in ("b", "o", "c"):
            self.check(ENDLESS, (word,), word)
            self.check(ENDLESS, ("a", word, "z"), word)
        for word in ("a", "o", "c"):
            self.check(NEVER, (word,), word)
        blocks = (("x", "o", "c", token("b")), ("y", "p", "q", token("a")))
        for word in ("b", "o", "c"):
            self.check(Grammar(block("y"), blocks=blocks), ("p", "a", "q", word), word)

    def test_the_first_one(self):
        self.check(ENDLESS, ("a", "c", "z", "o"), "c")
        self.check(ENDLESS, ("a", "z", "c", "o"), "z")

    def test_known_tokens(self):
        for grammar in (AB, LETS, NESTS):
            for word in grammar.tokens():
                self.assertEqual(gap_count(grammar, (word,)) == 0, Oracle(grammar).is_valid((word,)))

    def test_the_error_holds_the_token(self):
        check_error_for_any_value(self, lambda value: gap_count(AB, ("a", value)), UnknownToken, "token", ["z", "abcdefgh"])


if __name__ == "__main__":
    unittest.main()
