"""Point 12: error counts and spans."""

import random
import unittest

from errorspans.grammars import Grammar
from errorspans.spans import earliest, error_count, latest, spans
from helpers import AB, LETS, NESTS, bad_windows, block, check_arguments_stay, hits, random_cases, random_text, \
    random_valid_text, ranges_of, smallest_choices, token

PLAIN = Grammar(("choice", token("a"), block("x")), blocks=(("x", "o", "c", ("repeat", token("a"))),))
EMPTY = Grammar(block("x"), blocks=(("x", "o", "c", block("x")),))


class SpansTest(unittest.TestCase):

    def check(self, grammar, text, expected):
        self.assertEqual(spans(grammar, text), expected)
        self.assertEqual(error_count(grammar, text), len(expected))
        self.assertEqual(earliest(grammar, text), tuple([least for least, _ in expected]))
        self.assertEqual(latest(grammar, text), tuple([greatest for _, greatest in expected]))

    def test_texts_without_errors(self):
        for grammar in (AB, LETS, NESTS, PLAIN, EMPTY):
            self.check(grammar, (), ())
        self.check(AB, ("a", "b") * 200, ())
        self.check(NESTS, ("o",) * 40 + ("c",) * 40, ())

    def test_one_error(self):
        self.check(AB, ("a",), ((0, 1),))
        self.check(AB, ("b",), ((0, 0),))
        self.check(AB, ("a", "b", "b"), ((1, 2),))
        self.check(AB, ("a", "a", "b"), ((0, 1),))
        self.check(LETS, ("let", "name", "lpar", "num", "num", "rpar"), ((3, 4),))

    def test_several_errors(self):
        self.check(AB, ("b", "a"), ((0, 0), (1, 2)))
        self.check(AB, ("a", "a", "a"), ((0, 1), (2, 3)))
        self.check(AB, ("b", "b", "b"), ((0, 0), (1, 2)))
        self.check(AB, ("a", "a", "a", "b", "b", "a"), ((1, 1), (3, 4), (5, 6)))

    def test_unknown_tokens(self):
        self.check(AB, ("z",), ((0, 0),))
        self.check(AB, ("a", "z", "b"), ((1, 1),))
        self.check(AB, ("z",) * 400, tuple([(at, at) for at in range(400)]))
        self.check(EMPTY, ("o", "c", "x"), ((0, 0), (1, 1), (2, 2)))

    def test_start_is_no_place(self):
        self.check(NESTS, ("a", "a", "c"), ((0, 2),))
        self.check(PLAIN, ("c",), ((0, 0),))

    def test_end_is_a_place(self):
        self.check(NESTS, ("o", "a", "a"), ((0, 3),))
        self.check(PLAIN, ("o",) + ("a",) * 399, ((0, 400),))

    def test_blocks_left_open(self):
        self.check(NESTS, ("o",) * 40, ((39, 40),))
        self.check(PLAIN, ("o", "o", "a"), ((1, 1),))
        self.check(NESTS, ("o", "a", "c", "o", "a"), ((3, 5),))

    def test_blocks_closed_too_often(self):
        self.check(NESTS, ("o", "c", "c"), ((0, 2),))
        self.check(NESTS, ("c",) * 40, ((0, 0),))
        self.check(NESTS, ("o",) * 20 + ("c",) * 21, ((0, 40),))

    def test_blocks_nested_in_one_another(self):
        self.check(NESTS, ("o", "p", "b", "q", "c"), ())
        self.check(NESTS, ("o", "p", "b", "c", "q"), ((2, 3),))
        self.check(NESTS, ("p", "b", "o", "q", "c"), ((0, 0), (2, 3)))

    def test_texts_of_400_tokens(self):
        chance = random.Random(31)
        for grammar in (AB, LETS, NESTS, PLAIN):
            for _ in range(4):
                text = random_text(chance, grammar, 400)
                text += random_valid_text(chance, grammar, 400 - len(text))
                self.check_order(text[:400], spans(grammar, text[:400]))
        self.check(AB, ("a",) * 400, tuple([(at, at) for at in range(1, 400, 2)]))
        self.check(AB, ("a",) * 399, tuple([(at, at + 1) for at in range(0, 400, 2)]))
        self.check(AB, ("b",) * 399, ((0, 0),) + tuple([(at, at + 1) for at in range(1, 399, 2)]))

    def check_order(self, text, found):
        """Check that spans are in the text, in order and apart."""
        ends = [-1] + [end for span in found for end in span]
        self.assertLessEqual(ends[-1], len(text))
        for at in range(0, len(ends) - 1, 2):
            self.assertLess(ends[at], ends[at + 1])
            self.assertLessEqual(ends[at + 1], ends[at + 2])

    def test_as_all_sets_of_places_say(self):
        for grammar, text in random_cases(32, 120, 7, 7):
            with self.subTest(item=grammar.item, blocks=grammar.blocks, text=text):
                self.check(grammar, text, spans_of(grammar, text))

    def test_by_names(self):
        for function, expected in ((error_count, 2), (spans, ((0, 0), (1, 2))), (latest, (0, 2)), (earliest, (0, 1))):
            self.assertEqual(function(grammar=AB, text=("b", "a")), expected)
            check_arguments_stay(self, function, AB, ("b", "a"))

    def test_kinds_of_values(self):
        self.assertIs(type(error_count(AB, ("a",))), int)
        for function in (spans, latest, earliest):
            self.assertIs(type(function(AB, ("a",))), tuple)
            self.assertEqual(function(AB, ()), ())
        self.assertIs(type(spans(AB, ("a",))[0]), tuple)


def spans_of(grammar, text):
    """Return the spans by going through all sets of places."""
    return ranges_of(smallest_choices(len(text) + 1, bad_windows(grammar, text), hits))


if __name__ == "__main__":
    unittest.main()
