"""Point 15: fixes."""

import random
import unittest

from errorspans.errors import NoError
from errorspans.fixes import fix, is_fix, quick_fixes
from errorspans.grammars import Grammar
from errorspans.repairs import apply_repair
from errorspans.spans import error_count, spans
from helpers import AB, LETS, NESTS, ODD_VALUES, all_tuples, bad_windows, block, check_arguments_stay, \
    check_error_for_any_value, hits, random_cases, random_text, smallest_choices, token

PLAIN = Grammar(("choice", token("a"), block("x")), blocks=(("x", "o", "c", ("repeat", token("a"))),))
THREE = ("a", "a", "a")


def slow_count(grammar, text):
    """Return the error count by going through all sets of places."""
    return len(smallest_choices(len(text) + 1, bad_windows(grammar, text), hits)[0])


def changed_text(text, place, tokens):
    return text[:place] + tokens + text[place + 1:]


def slow_quick_fixes(grammar, text, number):
    """Return the quick fixes by trying every pair that point 15 names."""
    least, greatest = spans(grammar, text)[number]
    found = []
    for place in range(least, greatest + 1):
        tries = {()} | {(word,) for word in grammar.tokens()}
        if place < len(text):
            tries |= {(text[place], word) for word in grammar.tokens()}
            tries |= {(word, text[place]) for word in grammar.tokens()}
        count = error_count(grammar, text)
        found += [(place, tokens) for tokens in tries
                  if error_count(grammar, changed_text(text, place, tokens)) == count - 1]
    return tuple(sorted(found))


class IsFixTest(unittest.TestCase):

    def test_fixes(self):
        for place, tokens in ((1, ()), (1, ("b",)), (0, ()), (0, ("a", "b")), (2, ()), (3, ("b",)), (2, ("a", "b")), (1, ("b", "a"))):
            self.assertIs(is_fix(AB, THREE, place, tokens), True, (place, tokens))
        self.assertIs(is_fix(grammar=AB, text=("a",), place=1, tokens=("b",)), True)
        self.assertIs(is_fix(AB, ("z",), 0, ()), True)
        self.assertIs(is_fix(NESTS, ("o",) * 40, 40, ("c",) * 40), True)

    def test_no_fixes(self):
        for place, tokens in ((0, ("a",)), (0, ("b",)), (0, ("z",)), (3, ()), (3, ("a",)), (1, ("a", "a")), (3, ("b", "z"))):
            self.assertIs(is_fix(AB, THREE, place, tokens), False, (place, tokens))

    def test_texts_without_errors(self):
        for text in ((), ("a", "b")):
            for place in range(len(text) + 1):
                for tokens in ((), ("a",), ("a", "b"), ("z",)):
                    self.assertIs(is_fix(AB, text, place, tokens), False)

    def test_places_outside_of_spans(self):
        text = ("a", "b", "b", "a", "b")
        self.assertEqual(spans(AB, text), ((1, 2),))
        for place in (0, 3, 4, 5):
            for tokens in all_tuples(("a", "b"), 3):
                self.assertIs(is_fix(AB, text, place, tokens), False)

    def test_as_all_sets_of_places_say(self):
        for grammar, text in random_cases(91, 30, 3, 5):
            count = slow_count(grammar, text)
            for place in range(len(text) + 1):
                for tokens in all_tuples(grammar.tokens()[:4], 1) + [grammar.tokens()[:2], grammar.tokens()[1:3]]:
                    expected = slow_count(grammar, changed_text(text, place, tokens)) == count - 1
                    with self.subTest(item=grammar.item, blocks=grammar.blocks, text=text, place=place, tokens=tokens):
                        self.assertIs(is_fix(grammar, text, place, tokens), expected)
                        if expected:
                            self.assertTrue(any([least <= place <= greatest for least, greatest in spans(grammar, text)]))

    def test_arguments_stay(self):
        check_arguments_stay(self, is_fix, NESTS, ("o", "z", "q"), 1, ("a", "b"))


class FixTest(unittest.TestCase):

    def check_places(self, grammar, text, places):
        """Check that there is a fix at a place just where it lies in a span."""
        found = spans(grammar, text)
        count = error_count(grammar, text)
        for place in places:
            tokens = fix(grammar, text, place)
            if not any([least <= place <= greatest for least, greatest in found]):
                self.assertIs(tokens, None)
                continue
            self.assertIs(type(tokens), tuple)
            self.assertEqual(error_count(grammar, apply_repair(text, ((place, tokens),))), count - 1)
            self.assertIs(is_fix(grammar, text, place, tokens), True)

    def test_places_outside_of_spans(self):
        for place in range(3):
            self.assertIs(fix(AB, ("a", "b"), place), None)
        self.assertIs(fix(AB, (), 0), None)
        for place in (0, 3, 4, 5):
            self.assertIs(fix(AB, ("a", "b", "b", "a", "b"), place), None)

    def test_small_texts(self):
        for text in ((), ("a",), ("b",), ("b", "a"), THREE, ("z", "a", "z"), ("b", "b", "a", "a", "z")):
            self.check_places(AB, text, range(len(text) + 1))
        for text in (("o",) * 3, ("c",) * 3, ("o", "p", "b", "c", "q"), ("p", "o", "c"), ("q", "z", "p"), ("o", "a", "c", "c")):
            self.check_places(NESTS, text, range(len(text) + 1))
        self.assertEqual(fix(grammar=AB, text=("a",), place=1), ("b",))

    def test_many_texts(self):
        for grammar, text in random_cases(92, 100, 6, 8):
            with self.subTest(item=grammar.item, blocks=grammar.blocks, text=text):
                self.check_places(grammar, text, range(len(text) + 1))

    def test_texts_of_400_tokens(self):
        chance = random.Random(93)
        self.check_places(PLAIN, ("o",) + ("a",) * 399, range(0, 401, 40))
        self.check_places(NESTS, ("o",) * 40 + ("a",) * 320 + ("c",) * 39, range(0, 400, 57))
        self.check_places(NESTS, ("o",) * 40 + ("a",) * 319 + ("c",) * 41, range(0, 400, 57))
        for grammar in (AB, LETS, NESTS):
            text = tuple([chance.choice(grammar.tokens()) for _ in range(400)])
            self.check_places(grammar, text, range(0, 401, 23))
            self.check_places(grammar, text, [400])
            text = random_text(chance, grammar, 400)
            self.check_places(grammar, text, range(0, len(text) + 1, 41))

    def test_arguments_stay(self):
        check_arguments_stay(self, fix, NESTS, ("o", "z", "q"), 1)


class QuickFixesTest(unittest.TestCase):

    def test_small_texts(self):
        self.assertEqual(quick_fixes(AB, ("a",), 0), ((0, ()), (0, ("a", "b")), (1, ("b",))))
        self.assertEqual(quick_fixes(AB, ("b",), 0), ((0, ()), (0, ("a", "b"))))
        self.assertEqual(quick_fixes(AB, ("z",), 0), ((0, ()),))
        self.assertEqual(quick_fixes(grammar=AB, text=("a", "z"), number=0), ((1, ("b",)),))
        # With b at place 1, place 0 hits both bad windows.
        self.assertEqual(quick_fixes(AB, ("b", "a"), 1), ((1, ()), (1, ("a", "b")), (1, ("b",)), (2, ("b",))))
        self.assertEqual(quick_fixes(NESTS, ("o",), 0), ((0, ()), (0, ("a",)), (0, ("o", "c")), (1, ("c",))))

    def test_none_is_short_enough(self):
        self.assertEqual(quick_fixes(LETS, ("let",), 0), ((0, ()),))
        self.assertEqual(quick_fixes(LETS, ("let", "name"), 0), ())
        self.assertEqual(quick_fixes(NESTS, ("o",) * 3, 0), ())

    def test_as_all_pairs_say(self):
        found = 0
        for grammar, text in random_cases(94, 100, 6, 7):
            for number in range(error_count(grammar, text)):
                with self.subTest(item=grammar.item, blocks=grammar.blocks, text=text, number=number):
                    expected = slow_quick_fixes(grammar, text, number)
                    self.assertEqual(quick_fixes(grammar, text, number), expected)
                    found += len(expected)
        self.assertGreater(found, 1000)

    def test_texts_of_400_tokens(self):
        chance = random.Random(95)
        for grammar in (AB, LETS, NESTS):
            text = tuple([chance.choice(grammar.tokens()) for _ in range(400)])
            for number in (0, 1, error_count(grammar, text) // 2, error_count(grammar, text) - 1):
                self.assertEqual(quick_fixes(grammar, text, number), slow_quick_fixes(grammar, text, number))
        text = ("o",) + ("a",) * 399
        expected = [(0, ()), (0, ("a",)), (0, ("o", "c"))]
        for place in range(1, 400):
            expected += [(place, tokens) for tokens in (("a", "c"), ("c",), ("c", "a"))]
        self.assertEqual(quick_fixes(PLAIN, text, 0), tuple(expected + [(400, ("c",))]))

    def test_deep_blocks(self):
        for text in (("o",) * 40 + ("c",) * 39, ("o",) * 39 + ("c",) * 40, ("o",) * 40 + ("p", "b", "c") + ("c",) * 40):
            for number in range(error_count(NESTS, text)):
                expected = slow_quick_fixes(NESTS, text, number)
                self.assertEqual(quick_fixes(NESTS, text, number), expected)
                self.assertTrue(expected)

    def test_no_error_of_that_number(self):
        wrong = [-1, -2, 2, 3, 10 ** 18, -(10 ** 18)]
        check_error_for_any_value(self, lambda value: quick_fixes(AB, THREE, value), NoError, "number", wrong)
        for text in ((), ("a", "b")):
            check_error_for_any_value(self, lambda value: quick_fixes(AB, text, value), NoError, "number", [0, *wrong])

    def test_no_number(self):
        others = [value for value in ODD_VALUES if type(value) is not int] + ["0", "1", (0,), [0], {0: 0}, {1: 2}]
        check_error_for_any_value(self, lambda value: quick_fixes(AB, THREE, value), NoError, "number", others)

    def test_arguments_stay(self):
        check_arguments_stay(self, quick_fixes, NESTS, ("o", "z", "q"), 0)


if __name__ == "__main__":
    unittest.main()
