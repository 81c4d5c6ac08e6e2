"""Point 22: reports."""

import random
import unittest

from errorspans.conflicts import conflicts, window_at
from errorspans.errors import NoError
from errorspans.reports import report, show_report
from errorspans.spans import error_count, latest, spans
from errorspans.tokens import END
from errorspans.windows import is_good
from helpers import AB, LETS, NESTS, ODD_VALUES, bad_windows, check_arguments_stay, check_error_for_any_value, random_cases, \
    random_text, windows_of


def slow_conflict(grammar, text, place):
    """Return the bad windows that end with the element of that place and have no smaller bad one in them."""
    bad = bad_windows(grammar, text)
    return [(begin, stop) for begin, stop in bad if stop == place + 1 and not
            any([begin <= left and right <= stop and (left, right) != (begin, stop) for left, right in bad])]


def slow_words(grammar, text, number):
    """Return what may stand at the greatest place of a span, by trying each word behind the window ahead of it."""
    found = spans(grammar, text)
    begin = -1 if number == 0 else found[number - 1][1] + 1
    window = windows_of(text)[begin, found[number][1]]
    return tuple([word for word in sorted((END, *grammar.tokens(), "z")) if is_good(grammar, window + (word,))])


class ReportTest(unittest.TestCase):

    def test_one_error(self):
        self.assertEqual(report(AB, ("a", "a", "b"), 0), (0, 1, (0, 2), ("b",)))
        self.assertEqual(report(AB, ("b",), 0), (0, 0, (-1, 1), ("$", "a")))
        self.assertEqual(report(AB, ("a",), 0), (0, 1, (0, 2), ("b",)))
        self.assertEqual(report(AB, ("a", "b", "b"), 0), (1, 2, (1, 3), ("$", "a")))
        self.assertEqual(report(LETS, ("let", "name", "lpar", "num", "num", "rpar"), 0), (3, 4, (3, 5), ("comma", "rpar")))

    def test_several_errors(self):
        self.assertEqual(report(AB, ("b", "a"), 0), (0, 0, (-1, 1), ("$", "a")))
        self.assertEqual(report(AB, ("b", "a"), 1), (1, 2, (1, 3), ("b",)))
        self.assertEqual(report(AB, ("a", "a", "a"), 0), (0, 1, (0, 2), ("b",)))
        self.assertEqual(report(AB, ("a", "a", "a"), 1), (2, 3, (2, 4), ("b",)))

    def test_wrong_tokens(self):
        self.assertEqual(report(AB, ("a", "z", "b"), 0), (1, 1, (1, 2), ("b",)))
        # Behind the place of the span ahead a window may begin anywhere.
        self.assertEqual([report(AB, ("z", "z", "z"), number) for number in range(3)],
                         [(0, 0, (0, 1), ("$", "a")), (1, 1, (1, 2), ("$", "a", "b")), (2, 2, (2, 3), ("$", "a", "b"))])

    def test_the_conflict_may_begin_ahead_of_the_span(self):
        self.assertEqual(report(NESTS, ("o", "a", "a"), 0), (0, 3, (0, 4), ("a", "c", "o", "p")))
        self.assertEqual(report(NESTS, ("a", "a", "c"), 0), (0, 2, (-1, 3), ("$", "a", "o")))

    def test_deep_blocks(self):
        self.assertEqual(report(NESTS, ("o",) * 40, 0), (39, 40, (39, 41), ("a", "c", "o", "p")))
        self.assertEqual(report(NESTS, ("o",) * 40 + ("q",) + ("c",) * 40, 0), (39, 40, (39, 41), ("a", "c", "o", "p")))

    def test_as_all_windows_say(self):
        found = 0
        for grammar, text in random_cases(161, 100, 5, 7):
            for number, (least, greatest) in enumerate(spans(grammar, text)):
                found += 1
                with self.subTest(item=grammar.item, blocks=grammar.blocks, text=text, number=number):
                    told = report(grammar, text, number)
                    self.assertEqual(told[:2], (least, greatest))
                    self.assertEqual([told[2]], slow_conflict(grammar, text, greatest))
                    self.assertEqual(told[3], slow_words(grammar, text, number))
                    self.assertTrue(told[3])
                    self.assertEqual([type(part) for part in told], [int, int, tuple, tuple])
        self.assertGreater(found, 500)

    def test_texts_of_400_tokens(self):
        chance = random.Random(162)
        for grammar in (AB, LETS, NESTS):
            for text in (tuple([chance.choice(grammar.tokens()) for _ in range(400)]), random_text(chance, grammar, 400)):
                places = latest(grammar, text)
                for number in sorted({0, 1, len(places) // 2, len(places) - 1} & set(range(len(places)))):
                    least, greatest, conflict, words = report(grammar, text, number)
                    self.assertEqual((least, greatest), spans(grammar, text)[number])
                    self.assertIn(conflict, conflicts(grammar, text))
                    self.assertEqual(conflict[1], greatest + 1)
                    window = window_at(text, -1 if number == 0 else places[number - 1] + 1, greatest)
                    self.assertEqual(words, tuple([word for word in sorted((END, *grammar.tokens()))
                                                   if is_good(grammar, window + (word,))]))

    def test_no_error(self):
        others = [value for value in ODD_VALUES if type(value) is not int] + ["0", "1", (0,), [0], {0: 0}, {1: 2}]
        wrong = [-1, -2, 2, 3, 10 ** 18, -(10 ** 18), *others]
        check_error_for_any_value(self, lambda value: report(AB, ("a", "a", "a"), value), NoError, "number", wrong)
        for text in ((), ("a", "b")):
            check_error_for_any_value(self, lambda value: report(AB, text, value), NoError, "number", [0, *wrong])

    def test_by_name_and_arguments_stay(self):
        self.assertEqual(report(number=0, text=("a",), grammar=AB), (0, 1, (0, 2), ("b",)))
        check_arguments_stay(self, report, NESTS, ("o", "z", "q"), 0)


class ShowReportTest(unittest.TestCase):

    def test_one_place_and_two(self):
        self.assertEqual(show_report(report(AB, ("a", "a", "b"), 0)), "0-1: expected b")
        self.assertEqual(show_report(report(AB, ("a", "z", "b"), 0)), "1: expected b")
        self.assertEqual(show_report((0, 0, (0, 1), ("a",))), "0: expected a")
        self.assertEqual(show_report((398, 400, (390, 401), ("abcdefgh",))), "398-400: expected abcdefgh")

    def test_end_and_several_tokens(self):
        self.assertEqual(show_report(report(AB, ("b",), 0)), "0: expected $, a")
        self.assertEqual(show_report(report(NESTS, ("a", "a", "c"), 0)), "0-2: expected $, a, o")
        self.assertEqual(show_report(report(NESTS, ("o",), 0)), "0-1: expected a, c, o, p")

    def test_many_reports(self):
        for grammar, text in random_cases(163, 40, 4, 7):
            for number in range(error_count(grammar, text)):
                found = report(grammar, text, number)
                least, greatest, _, words = found
                ahead = str(least) if least == greatest else str(least) + "-" + str(greatest)
                self.assertEqual(show_report(found), ahead + ": expected " + ", ".join(words))

    def test_by_name_and_arguments_stay(self):
        self.assertEqual(show_report(found=(1, 2, (0, 3), ("$",))), "1-2: expected $")
        check_arguments_stay(self, show_report, (1, 2, (0, 3), ("$", "a")))


if __name__ == "__main__":
    unittest.main()
