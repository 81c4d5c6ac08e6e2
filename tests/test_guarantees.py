"""Point 3: the guarantees, over small random grammars and texts."""

import random
import unittest

from errorspans.conflicts import window_at
from errorspans.fixes import fix, quick_fixes
from errorspans.gaps import apply_insertions, gap_count, gap_spans
from errorspans.grammars import mirrored
from errorspans.repairs import apply_repair, is_repair, repair
from errorspans.solutions import count_solutions, solution_at
from errorspans.spans import error_count, spans
from errorspans.windows import context
from errorspans.witnesses import is_witness, witness
from helpers import Oracle, bad_windows, cuts, known_cases, most_apart, random_cases, share_element, share_gap, \
    smallest_choices


class DualityTest(unittest.TestCase):
    """Guarantee (a)."""

    def test_errors_are_as_many_as_bad_windows_apart(self):
        for grammar, text in random_cases(61, 120, 6, 6):
            with self.subTest(item=grammar.item, blocks=grammar.blocks, text=text):
                count = error_count(grammar, text)
                self.assertEqual(count, most_apart(bad_windows(grammar, text), share_element))
                self.assertIs(is_witness(grammar, text, witness(grammar, text)), True)
                self.assertEqual(count, len(repair(grammar, text)))
                self.assertIs(is_repair(grammar, text, repair(grammar, text)), True)


class SpansTest(unittest.TestCase):
    """Guarantee (b)."""

    def test_places_of_solutions_are_those_of_spans(self):
        for grammar, text in random_cases(62, 120, 6, 7):
            found = spans(grammar, text)
            solutions = [solution_at(grammar, text, number) for number in range(count_solutions(grammar, text))]
            with self.subTest(item=grammar.item, blocks=grammar.blocks, text=text):
                for at, (least, greatest) in enumerate(found):
                    self.assertEqual({solution[at] for solution in solutions}, set(range(least, greatest + 1)))
                for (_, greatest), (least, _) in zip(found, found[1:]):
                    self.assertLess(greatest, least)


class IndependenceTest(unittest.TestCase):
    """Guarantee (c)."""

    def check_fix(self, grammar, text, place, tokens):
        """Check that the fix takes its span away and makes no other one longer."""
        before = spans(grammar, text)
        after = spans(grammar, apply_repair(text, ((place, tokens),)))
        others = [span for span in before if not span[0] <= place <= span[1]]
        self.assertEqual(len(others), len(before) - 1)
        self.assertEqual(len(after), len(others))
        for (least, greatest), found in zip(others, after):
            moved = len(tokens) - 1 if least > place else 0
            self.assertLessEqual(least + moved, found[0])
            self.assertLessEqual(found[1], greatest + moved)

    def test_fixes_at_each_place_of_each_span(self):
        for grammar, text in random_cases(64, 100, 6, 8):
            for number, (least, greatest) in enumerate(spans(grammar, text)):
                with self.subTest(item=grammar.item, blocks=grammar.blocks, text=text, number=number):
                    for place in range(least, greatest + 1):
                        self.check_fix(grammar, text, place, fix(grammar, text, place))
                    for place, tokens in quick_fixes(grammar, text, number):
                        self.check_fix(grammar, text, place, tokens)

    def test_errors_are_fixed_in_any_order(self):
        chance = random.Random(65)
        for grammar, text in random_cases(66, 80, 5, 12):
            with self.subTest(item=grammar.item, blocks=grammar.blocks, text=text):
                for _ in range(error_count(grammar, text)):
                    place = chance.randint(*chance.choice(spans(grammar, text)))
                    tokens = fix(grammar, text, place)
                    self.check_fix(grammar, text, place, tokens)
                    text = apply_repair(text, ((place, tokens),))
                self.assertTrue(Oracle(grammar).is_valid(text))


class InsertionsTest(unittest.TestCase):
    """Guarantee (e)."""

    def test_gaps_are_as_many_as_bad_windows_apart(self):
        for grammar, text in known_cases(67, 120, 6, 6):
            with self.subTest(item=grammar.item, blocks=grammar.blocks, text=text):
                self.assertEqual(gap_count(grammar, text), most_apart(bad_windows(grammar, text), share_gap))

    def test_gaps_of_solutions_are_those_of_spans(self):
        for grammar, text in known_cases(68, 120, 6, 7):
            found = gap_spans(grammar, text)
            solutions = smallest_choices(len(text) + 1, bad_windows(grammar, text), cuts)
            with self.subTest(item=grammar.item, blocks=grammar.blocks, text=text):
                for at, (least, greatest) in enumerate(found):
                    self.assertEqual({solution[at] for solution in solutions}, set(range(least, greatest + 1)))
                for (_, greatest), (least, _) in zip(found, found[1:]):
                    self.assertLess(greatest, least)

    def test_insertions_at_each_gap_of_each_span(self):
        for grammar, text in known_cases(69, 80, 6, 8):
            found = gap_spans(grammar, text)
            ends = [(-1, -1), *found, (len(text) + 1, len(text) + 1)]
            for number, (least, greatest) in enumerate(found):
                for gap in range(least, greatest + 1):
                    ahead = window_at(text, ends[number][1], gap)
                    behind = window_at(text, gap, ends[number + 2][0])
                    tokens = context(grammar, ahead)[1] + context(grammar, behind)[0]
                    with self.subTest(item=grammar.item, blocks=grammar.blocks, text=text, gap=gap):
                        self.check_insertion(grammar, text, gap, tokens)

    def check_insertion(self, grammar, text, gap, tokens):
        """Check that the insertion takes the span of its gap away and makes no other one longer."""
        others = [span for span in gap_spans(grammar, text) if not span[0] <= gap <= span[1]]
        after = gap_spans(grammar, apply_insertions(text, ((gap, tokens),)))
        self.assertEqual(len(after), len(others))
        for (least, greatest), found in zip(others, after):
            moved = len(tokens) if least > gap else 0
            self.assertLessEqual(least + moved, found[0])
            self.assertLessEqual(found[1], greatest + moved)


class MirrorTest(unittest.TestCase):
    """Point 6: the reversed text by the mirrored grammar."""

    def test_reversed_texts_have_as_many_errors(self):
        for grammar, text in random_cases(63, 150, 8, 12):
            with self.subTest(item=grammar.item, blocks=grammar.blocks, text=text):
                self.assertEqual(error_count(mirrored(grammar), text[::-1]), error_count(grammar, text))


if __name__ == "__main__":
    unittest.main()
