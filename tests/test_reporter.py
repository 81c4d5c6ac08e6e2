"""Point 17: reporters."""

import random
import unittest

from errorspans.errors import Finished
from errorspans.grammars import Grammar
from errorspans.reporter import Reporter
from errorspans.spans import error_count, latest
from errorspans.tokens import END
from errorspans.windows import context
from helpers import AB, LETS, NESTS, all_tuples, block, check_arguments_stay, facts_of, random_cases, random_text, \
    random_valid_text, token

EMPTY = Grammar(block("x"), blocks=(("x", "o", "c", block("x")),))


def told(grammar, text):
    """Return what a new reporter returns for each token and for the end."""
    reporter = Reporter(grammar)
    return [reporter.feed(word) for word in text] + [reporter.finish()]


def fed(grammar, text):
    reporter = Reporter(grammar)
    for word in text:
        reporter.feed(word)
    return reporter


def fewest_errors(grammar, text, places):
    """Return the least error count of texts that begin with this one: all that go on with up to three tokens, and one
    that goes on as the window behind the last of these places needs."""
    window = text[places[-1] + 1:] if places else ("^",) + text
    endings = all_tuples(grammar.tokens()[:4], 3) + [context(grammar, window)[1]]
    return min([error_count(grammar, text + ending) for ending in endings])


class FeedTest(unittest.TestCase):

    def check(self, grammar, text, expected):
        reporter = Reporter(grammar)
        places = [place for place in expected if place is not None]
        for at, word in enumerate(text):
            self.assertEqual(len(reporter), at)
            self.assertEqual(reporter.feed(word), expected[at])
            self.assertEqual(reporter.places(), tuple([place for place in places if place <= at]))
            self.assertIs(type(reporter.places()), tuple)
        self.assertEqual(reporter.finish(), expected[-1])
        self.assertEqual(reporter.places(), tuple(places))
        self.assertEqual(len(reporter), len(text))
        self.assertEqual(len(expected), len(text) + 1)

    def test_empty_text(self):
        for grammar in (AB, LETS, NESTS, EMPTY):
            self.check(grammar, (), [None])

    def test_valid_texts(self):
        self.check(AB, ("a", "b"), [None] * 3)
        self.check(AB, ("a", "b") * 200, [None] * 401)
        self.check(LETS, ("let", "name", "lpar", "num", "comma", "num", "rpar"), [None] * 8)
        self.check(NESTS, ("o",) * 40 + ("c",) * 40, [None] * 81)

    def test_one_error(self):
        self.check(AB, ("a", "a", "b"), [None, 1, None, None])
        self.check(AB, ("b",), [0, None])
        self.check(AB, ("a",), [None, 1])
        self.check(AB, ("a", "b", "a"), [None, None, None, 3])
        self.check(NESTS, ("o", "a", "q", "a"), [None, None, 2, None, None])

    def test_several_errors(self):
        self.check(AB, ("b", "a"), [0, None, 2])
        self.check(AB, ("a",) * 5, [None, 1, None, 3, None, 5])
        self.check(AB, ("a", "a", "b", "b", "a", "a"), [None, 1, None, 3, None, 5, None])

    def test_only_wrong_tokens(self):
        self.check(AB, ("z",) * 3, [0, 1, 2, None])
        self.check(AB, ("a", "z", "b", "z", "a"), [None, 1, None, 3, None, 5])
        self.check(EMPTY, ("o", "c", "x"), [0, 1, 2, None])
        self.check(LETS, ("list", "x", "a"), [0, 1, 2, None])

    def test_finish_of_open_blocks(self):
        for depth in (1, 39, 40):
            self.check(NESTS, ("o",) * depth, [None] * depth + [depth])
            self.check(NESTS, ("o",) * depth + ("c",) * (depth - 1), [None] * (2 * depth - 1) + [2 * depth - 1])
        # Behind a reported place a window may begin anywhere, so it may close blocks.
        self.check(NESTS, ("z", "c", "c"), [0, None, None, None])
        self.check(NESTS, ("o", "z", "c", "c", "q"), [None, 1, None, None, None, None])

    def test_by_name(self):
        reporter = Reporter(grammar=AB)
        self.assertEqual([reporter.feed(token="b"), reporter.finish()], [0, None])

    def test_as_continuations_say(self):
        found = 0
        for grammar, text in random_cases(101, 60, 4, 6):
            reporter = Reporter(grammar)
            for at, word in enumerate(text):
                before = len(reporter.places())
                place = reporter.feed(word)
                with self.subTest(item=grammar.item, blocks=grammar.blocks, text=text, at=at):
                    fewest = fewest_errors(grammar, text[:at + 1], reporter.places())
                    self.assertEqual(place, at if fewest > before else None)
                    self.assertEqual(len(reporter.places()), fewest)
                found += place is not None
            before = len(reporter.places())
            with self.subTest(item=grammar.item, blocks=grammar.blocks, text=text):
                self.assertEqual(reporter.finish(), len(text) if error_count(grammar, text) > before else None)
                self.assertEqual(len(reporter.places()), error_count(grammar, text))
        self.assertGreater(found, 100)

    def test_texts_of_400_tokens(self):
        chance = random.Random(102)
        for grammar in (AB, LETS, NESTS):
            for text in (tuple([chance.choice(grammar.tokens()) for _ in range(400)]), random_text(chance, grammar, 400),
                         random_valid_text(chance, grammar, 380)):
                places = [place for place in told(grammar, text) if place is not None]
                self.assertEqual(tuple(places), latest(grammar, text))


class ExpectedTest(unittest.TestCase):

    def test_small_texts(self):
        self.assertEqual(Reporter(AB).expected(), ("$", "a"))
        self.assertEqual(fed(AB, ("a",)).expected(), ("b",))
        self.assertEqual(fed(AB, ("a", "b")).expected(), ("$", "a"))
        self.assertEqual(fed(AB, ("a", "z")).expected(), ("$", "a", "b"))
        self.assertEqual(fed(NESTS, ("o",) * 40).expected(), ("a", "c", "o", "p"))
        self.assertEqual(fed(NESTS, ("q",)).expected(), ("$", "a", "b", "c", "o", "p", "q"))
        self.assertEqual(Reporter(EMPTY).expected(), ("$",))

    def test_asking_changes_nothing(self):
        reporter = fed(AB, ("a",))
        for _ in range(2):
            self.assertEqual((reporter.expected(), reporter.places(), len(reporter)), (("b",), (), 1))
        self.assertEqual(reporter.feed("b"), None)

    def test_is_what_would_not_be_reported(self):
        for grammar, text in random_cases(103, 80, 4, 7):
            for at in range(len(text) + 1):
                ahead = text[:at]
                words = [word for word in (*grammar.tokens(), "z") if fed(grammar, ahead).feed(word) is None]
                words += [END] if fed(grammar, ahead).finish() is None else []
                with self.subTest(item=grammar.item, blocks=grammar.blocks, text=ahead):
                    self.assertEqual(fed(grammar, ahead).expected(), tuple(sorted(words)))
                    self.assertTrue(words)


class FinishedTest(unittest.TestCase):

    def test_behind_finish(self):
        for text in ((), ("a",), ("a", "b"), ("b", "z")):
            reporter = fed(AB, text)
            reporter.finish()
            places = reporter.places()
            for call in (lambda: reporter.feed("a"), lambda: reporter.feed("z"), reporter.finish) * 2:
                with self.assertRaises(Finished) as caught:
                    call()
                self.assertEqual(vars(caught.exception), {})
                self.assertEqual((reporter.places(), len(reporter), reporter.expected()), (places, len(text), ()))

    def test_reporters_are_apart(self):
        one, other = Reporter(AB), Reporter(AB)
        one.feed("b")
        one.finish()
        self.assertEqual((other.places(), len(other), other.feed("a"), other.finish()), ((), 0, None, 1))

    def test_methods_stand_in_the_class(self):
        for name in ("feed", "finish", "places", "expected", "__len__", "__init__"):
            self.assertIn(name, vars(Reporter))

    def test_arguments_stay(self):
        check_arguments_stay(self, told, NESTS, ("o", "z", "q"))
        before = facts_of(LETS)
        reporter = fed(LETS, ("let", "z"))
        reporter.finish()
        self.assertEqual(facts_of(LETS), before)

    def test_returned_places_stay(self):
        reporter = fed(AB, ("b",))
        places = reporter.places()
        reporter.feed("b")
        reporter.feed("b")
        self.assertEqual((places, reporter.places()), ((0,), (0, 2)))

    def test_other_grammars(self):
        grammar = Grammar(("sequence", token("a"), ("optional", token("a")), token("b")))
        self.assertEqual(told(grammar, ("a", "a", "a", "b")), [None, None, 2, None, None])


if __name__ == "__main__":
    unittest.main()
