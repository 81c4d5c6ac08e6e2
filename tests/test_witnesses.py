"""Point 13, its first paragraph: witnesses."""

import random
import unittest

from errorspans.spans import error_count
from errorspans.windows import is_good
from errorspans.witnesses import is_witness, witness
from helpers import AB, LETS, NESTS, ODD_VALUES, bad_windows, check_arguments_stay, check_for_any_value, random_cases, \
    random_text, share_element, windows_of

THREE = ("a", "a", "a")


class WitnessTest(unittest.TestCase):

    def check(self, grammar, text):
        """Check what witness returns, straight from the document."""
        found = witness(grammar, text)
        self.assertIs(type(found), tuple)
        self.assertEqual(len(found), error_count(grammar, text))
        self.assertEqual(found, tuple(sorted(set(found))))
        marked = ("^", *text, "$")
        for begin, stop in found:
            self.assertTrue(-1 <= begin <= stop <= len(text) + 1)
            self.assertFalse(is_good(grammar, marked[begin + 1:stop + 1]))
        for (_, stop), (begin, _) in zip(found, found[1:]):
            self.assertLessEqual(stop, begin)
        self.assertIs(is_witness(grammar, text, found), True)

    def test_texts_without_errors(self):
        for grammar, text in ((AB, ()), (AB, ("a", "b") * 200), (NESTS, ("o",) * 40 + ("c",) * 40)):
            self.assertEqual(witness(grammar, text), ())
            self.assertIs(is_witness(grammar, text, ()), True)

    def test_small_texts(self):
        for text in (("a",), ("b",), ("b", "a"), THREE, ("z", "z"), ("a", "z", "b"), ("b", "b", "a", "a")):
            self.check(AB, text)
        for text in (("o",) * 40, ("c",) * 40, ("o", "p", "b", "c", "q"), ("a", "q"), ("p", "z", "c")):
            self.check(NESTS, text)

    def test_many_texts(self):
        for grammar, text in random_cases(51, 100, 6, 8):
            with self.subTest(item=grammar.item, blocks=grammar.blocks, text=text):
                self.check(grammar, text)

    def test_texts_of_400_tokens(self):
        chance = random.Random(52)
        for grammar in (AB, LETS, NESTS):
            self.check(grammar, tuple([chance.choice(grammar.tokens()) for _ in range(400)]))
            self.check(grammar, random_text(chance, grammar, 400))
        self.check(AB, ("z",) * 400)

    def test_by_names(self):
        self.assertEqual(len(witness(grammar=AB, text=("b", "a"))), 2)
        self.assertIs(is_witness(grammar=AB, text=("b", "a"), value=((-1, 1), (1, 3))), True)
        check_arguments_stay(self, witness, NESTS, ("o", "z", "q"))


class IsWitnessTest(unittest.TestCase):

    def check_three(self, value, expected=False):
        self.assertIs(is_witness(AB, THREE, value), expected, value)

    def test_witnesses(self):
        for value in (((0, 2), (2, 4)), ((-1, 2), (2, 4))):
            self.check_three(value, True)
        self.assertIs(is_witness(AB, ("a", "b", "b"), ((-1, 4),)), True)
        self.assertIs(is_witness(AB, ("a", "b", "b"), ((1, 3),)), True)

    def test_common_elements(self):
        for value in (((0, 2), (1, 3)), ((0, 3), (2, 4)), ((-1, 4), (-1, 4)), ((-1, 3), (0, 4)), ((0, 2), (0, 2)),
                      ((-1, 4), (0, 2))):
            self.check_three(value)

    def test_good_windows(self):
        for value in (((0, 1), (2, 4)), ((0, 2), (2, 3)), ((0, 2), (3, 4)), ((-1, 0), (0, 2)), ((-1, 1), (1, 3))):
            self.check_three(value)

    def test_empty_windows(self):
        for value in (((0, 0), (2, 4)), ((0, 2), (2, 2)), ((0, 2), (4, 4)), ((-1, -1), (0, 2)), ((1, 1), (1, 1))):
            self.check_three(value)

    def test_beyond_the_text(self):
        for value in (((-2, 2), (2, 4)), ((0, 2), (2, 5)), ((-(10 ** 18), 2), (2, 4)), ((0, 2), (2, 10 ** 18)),
                      ((0, 2), (5, 7)), ((0, 2), (4, 2)), ((2, 0), (2, 4)), ((0, 2), (2, -1)), ((-5, -3), (0, 2))):
            self.check_three(value)

    def test_fewer_or_more_windows(self):
        for value in ((), ((0, 2),), ((2, 4),), ((-1, 4),), ((-1, -1), (0, 2), (2, 4)), ((0, 2), (2, 4), (4, 4)),
                      ((0, 2), (2, 4), (2, 4))):
            self.check_three(value)
        for value in (((0, 2),), ((-1, 3),), ((0, 0),)):
            self.assertIs(is_witness(AB, ("a", "b"), value), False)

    def test_not_ascending(self):
        for value in (((2, 4), (0, 2)), ((2, 4), (-1, 2))):
            self.check_three(value)

    def test_bools(self):
        for value in (((False, 2), (2, 4)), ((False, True), (True, 3)), (True, (2, 4)), True):
            self.check_three(value)
        self.assertIs(is_witness(AB, ("z", "z"), ((0, 1), (1, 2))), True)
        for value in (((0, True), (1, 2)), ((0, 1), (True, 2)), ((False, 1), (1, 2))):
            self.assertIs(is_witness(AB, ("z", "z"), value), False)

    def test_other_kinds(self):
        near = [[(0, 2), (2, 4)], ([0, 2], (2, 4)), ((0, 2), [2, 4]), ((0, 2, 0), (2, 4)), ((0,), (2, 4)), (0, 2, 2, 4),
                ("02", "24"), (("0", "2"), (2, 4)), ((0, None), (2, 4)), {(0, 2): (2, 4)}, {0: 2, 2: 4}, ((), ())]
        check_for_any_value(self, lambda value: is_witness(AB, THREE, value), near)
        check_for_any_value(self, lambda value: is_witness(AB, THREE, value))
        check_for_any_value(self, lambda value: is_witness(AB, (), value))
        for value in ODD_VALUES:
            self.check_three((value, (2, 4)))
            self.check_three(((0, 2), value))
            if type(value) is not int:
                self.check_three(((value, 2), (2, 4)))
                self.check_three(((0, 2), (2, value)))
        for value in ([], {}, "", None, 0, False, ((),)):
            self.assertIs(is_witness(AB, ("a", "b"), value), False)

    def test_all_pairs_of_windows(self):
        for grammar, text in ((AB, THREE), (AB, ("b", "a")), (NESTS, ("c", "a", "o")), (NESTS, ("c", "z", "a"))):
            self.assertEqual(error_count(grammar, text), 2)
            bad = bad_windows(grammar, text)
            for one in windows_of(text):
                for other in windows_of(text):
                    expected = one in bad and other in bad and one < other and not share_element(one, other)
                    self.assertIs(is_witness(grammar, text, (one, other)), expected, (text, one, other))

    def test_arguments_stay(self):
        for value in (((0, 2), (2, 4)), [(0, 2)], {"a": [0]}, ([0, 2], {})):
            check_arguments_stay(self, is_witness, AB, THREE, value)


if __name__ == "__main__":
    unittest.main()
