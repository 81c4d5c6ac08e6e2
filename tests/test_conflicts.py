"""Point 11: windows of a text, how far they are good, and conflicts."""

import random
import unittest

from errorspans.conflicts import all_reaches, conflicts, reach, window_at
from errorspans.grammars import Grammar
from errorspans.tokens import END, START
from errorspans.windows import is_good, is_window
from helpers import AB, LETS, NESTS, bad_windows, block, check_arguments_stay, random_cases, random_text, \
    random_valid_text, token, windows_of

ENDLESS = Grammar(("choice", token("a"), ("sequence", token("b"), block("x"))), blocks=(("x", "o", "c", block("x")),))


def parts(window):
    """Return (begin, stop) of all proper parts of a window."""
    begin, stop = window
    found = [(low, high) for low in range(begin, stop + 1) for high in range(low, stop + 1)]
    return [part for part in found if part != window]


def slow_conflicts(grammar, text):
    bad = set(bad_windows(grammar, text))
    return tuple(sorted([window for window in bad if not bad.intersection(parts(window))]))


class WindowAtTest(unittest.TestCase):

    def test_each_window(self):
        for text in ((), ("a",), ("a", "b"), ("b", "z", "a")):
            for (begin, stop), window in windows_of(text).items():
                found = window_at(text, begin, stop)
                self.assertEqual(found, window, (text, begin, stop))
                self.assertIs(type(found), tuple)
                self.assertEqual(len(found), stop - begin)
                self.assertIs(is_window(found), True)

    def test_markers(self):
        text = ("a", "b")
        self.assertEqual(window_at(text, -1, 3), (START, "a", "b", END))
        self.assertEqual(window_at(text, -1, 0), (START,))
        self.assertEqual(window_at(text, 2, 3), (END,))
        self.assertEqual(window_at(text, 0, 2), ("a", "b"))
        self.assertEqual(window_at(text, 1, 3), ("b", END))
        for at in (-1, 0, 1, 2, 3):
            self.assertEqual(window_at(text, at, at), ())

    def test_empty_text(self):
        self.assertEqual([window_at((), begin, stop) for begin in (-1, 0, 1) for stop in range(begin, 2)],
                         [(), (START,), (START, END), (), (END,), ()])

    def test_by_names(self):
        self.assertEqual(window_at(text=("a", "b"), begin=-1, stop=1), (START, "a"))
        self.assertEqual(window_at(("a",) * 400, -1, 401), (START,) + ("a",) * 400 + (END,))


class ReachTest(unittest.TestCase):

    def reaches(self, grammar, text):
        return [reach(grammar, text, begin) for begin in range(-1, len(text) + 2)]

    def test_valid_texts(self):
        for grammar, text in ((AB, ()), (AB, ("a", "b") * 3), (NESTS, ("o",) * 40 + ("c",) * 40)):
            self.assertEqual(self.reaches(grammar, text), [len(text) + 1] * (len(text) + 3))

    def test_bad_windows(self):
        self.assertEqual(self.reaches(AB, ("a", "a", "b")), [1, 1, 4, 4, 4, 4])
        self.assertEqual(self.reaches(AB, ("b", "a")), [0, 2, 2, 3, 3])
        self.assertEqual(self.reaches(NESTS, ("c", "a", "o")), [0, 3, 3, 3, 4, 4])

    def test_single_bad_elements(self):
        self.assertEqual(self.reaches(AB, ("a", "z", "b")), [1, 1, 1, 4, 4, 4])
        self.assertEqual(self.reaches(AB, ("z",)), [0, 0, 2, 2])
        self.assertEqual(self.reaches(ENDLESS, ("b", "a", "o", "c")), [0, 0, 2, 2, 3, 5, 5])
        for begin in range(3):
            self.assertEqual(reach(AB, ("z", "z", "z"), begin), begin)

    def test_empty_text(self):
        self.assertEqual(self.reaches(AB, ()), [1, 1, 1])
        self.assertEqual(self.reaches(ENDLESS, ()), [1, 1, 1])

    def test_by_names(self):
        self.assertEqual(reach(grammar=AB, text=("a", "a"), begin=-1), 1)
        check_arguments_stay(self, reach, AB, ("a", "a"), -1)

    def test_as_all_windows_say(self):
        for grammar, text in random_cases(21, 80, 6, 7):
            good = [at for at, window in windows_of(text).items() if is_good(grammar, window)]
            with self.subTest(item=grammar.item, blocks=grammar.blocks, text=text):
                expected = [max([stop for low, stop in good if low == begin]) for begin in range(-1, len(text) + 2)]
                self.assertEqual(self.reaches(grammar, text), expected)
                self.assertEqual(all_reaches(grammar, text), expected)


class ConflictsTest(unittest.TestCase):

    def test_valid_texts(self):
        for grammar, text in ((AB, ()), (AB, ("a", "b") * 200), (NESTS, ("o",) * 40 + ("c",) * 40), (ENDLESS, ("a",) * 3)):
            self.assertEqual(conflicts(grammar, text), ())

    def test_one(self):
        self.assertEqual(conflicts(grammar=AB, text=("a", "b", "b", "a", "b")), ((1, 3),))
        self.assertEqual(conflicts(LETS, ("let", "name", "lpar", "rpar")), ((2, 4),))
        self.assertEqual(conflicts(NESTS, ("o", "a", "a")), ((0, 4),))

    def test_several(self):
        self.assertEqual(conflicts(AB, ("a", "a", "a")), ((0, 2), (1, 3), (2, 4)))
        self.assertEqual(conflicts(AB, ("a", "a", "b", "b", "a", "b")), ((0, 2), (2, 4)))
        self.assertEqual(conflicts(NESTS, ("c", "o")), ((-1, 1), (1, 3)))

    def test_markers(self):
        self.assertEqual(conflicts(AB, ("b",)), ((-1, 1),))
        self.assertEqual(conflicts(AB, ("a",)), ((0, 2),))
        self.assertEqual(conflicts(NESTS, ("a", "a", "c")), ((-1, 3),))
        self.assertEqual(conflicts(NESTS, ("p", "b", "q")), ((-1, 1),))

    def test_unknown_tokens(self):
        self.assertEqual(conflicts(AB, ("a", "z", "b")), ((1, 2),))
        self.assertEqual(conflicts(AB, ("z", "y", "z")), ((0, 1), (1, 2), (2, 3)))
        self.assertEqual(conflicts(ENDLESS, ("b", "a", "o")), ((0, 1), (2, 3)))
        self.assertEqual(conflicts(AB, ("z",) * 400), tuple([(at, at + 1) for at in range(400)]))

    def test_conflict_across_a_whole_text(self):
        self.assertEqual(conflicts(NESTS, ("o",) + ("a",) * 399), ((0, 401),))
        self.assertEqual(conflicts(NESTS, ("a",) * 399 + ("c",)), ((-1, 400),))

    def test_blocks_left_open_and_closed_too_often(self):
        # The last open token and END, or START and the first close token, hold all other ones that are bad.
        self.assertEqual(conflicts(NESTS, ("o",) * 40 + ("a",) * 40), ((39, 81),))
        self.assertEqual(conflicts(NESTS, ("a",) * 40 + ("c",) * 40), ((-1, 41),))
        # Each block of the grammar pairs is closed by the token of the other one.
        inner = ("repeat", ("choice", token("a"), block("x"), block("y")))
        pairs = Grammar(inner, blocks=(("x", "o", "c", inner), ("y", "p", "q", inner)))
        text = ("o",) + ("a",) * 50 + ("q",) + ("p",) + ("a",) * 50 + ("c",)
        self.assertEqual(conflicts(pairs, text), ((0, 52), (52, 104)))
        self.assertEqual(conflicts(pairs, ("o", "o", "c") * 40 + ("q",)), ((117, 121),))

    def test_long_texts(self):
        chance = random.Random(22)
        for grammar in (AB, LETS, NESTS):
            for text in (random_valid_text(chance, grammar, 330)[:400], random_text(chance, grammar, 400)):
                found = conflicts(grammar, text)
                self.assertEqual(found, tuple(sorted(found)))
                for begin, stop in found:
                    self.assertFalse(is_good(grammar, window_at(text, begin, stop)))
                    self.assertTrue(is_good(grammar, window_at(text, begin + 1, stop)))
                    self.assertTrue(is_good(grammar, window_at(text, begin, stop - 1)))
                # From each begin, the first conflict that is not ahead of it ends the reach.
                for begin in range(-1, len(text) + 2, 7):
                    stops = [stop for low, stop in found if low >= begin]
                    self.assertEqual(reach(grammar, text, begin), min(stops, default=len(text) + 2) - 1)

    def test_as_all_windows_say(self):
        for grammar, text in random_cases(23, 100, 6, 7):
            with self.subTest(item=grammar.item, blocks=grammar.blocks, text=text):
                found = conflicts(grammar, text)
                self.assertEqual(found, slow_conflicts(grammar, text))
                self.assertIs(type(found), tuple)

    def test_arguments_stay(self):
        check_arguments_stay(self, conflicts, NESTS, ("o", "z", "q"))


if __name__ == "__main__":
    unittest.main()
