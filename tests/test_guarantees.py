"""Point 3: the guarantees, over small random grammars and texts."""

import unittest

from errorspans.grammars import mirrored
from errorspans.solutions import count_solutions, solution_at
from errorspans.spans import error_count, spans
from errorspans.witnesses import is_witness, witness
from helpers import bad_windows, most_apart, random_cases, share_element


class DualityTest(unittest.TestCase):
    """Guarantee (a)."""

    def test_errors_are_as_many_as_bad_windows_apart(self):
        for grammar, text in random_cases(61, 120, 6, 6):
            with self.subTest(item=grammar.item, blocks=grammar.blocks, text=text):
                count = error_count(grammar, text)
                self.assertEqual(count, most_apart(bad_windows(grammar, text), share_element))
                self.assertIs(is_witness(grammar, text, witness(grammar, text)), True)


class SpansTest(unittest.TestCase):
    """Guarantee (b)."""

    def test_places_of_solutions_are_those_of_spans(self):
        for grammar, text in random_cases(62, 120, 6, 7):
            found = spans(grammar, text)
            solutions = [solution_at(grammar, text, number) for number in range(count_solutions(grammar, text))]
            with self.subTest(item=grammar.item, blocks=grammar.blocks, text=text):
                for at, (least, greatest) in enumerate(found):
                    self.assertEqual({solution[at] for solution in solutions}, set(range(least, greatest + 1)))
                for (_, greatest), (least, _) in zip(found, found[1:]):
                    self.assertLess(greatest, least)


class MirrorTest(unittest.TestCase):
    """Point 6: the reversed text by the mirrored grammar."""

    def test_reversed_texts_have_as_many_errors(self):
        for grammar, text in random_cases(63, 150, 8, 12):
            with self.subTest(item=grammar.item, blocks=grammar.blocks, text=text):
                self.assertEqual(error_count(mirrored(grammar), text[::-1]), error_count(grammar, text))


if __name__ == "__main__":
    unittest.main()
