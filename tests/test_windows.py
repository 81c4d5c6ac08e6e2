"""Point 10: windows."""

import copy
import random
import unittest

from errorspans.grammars import Grammar
from errorspans.tokens import END, START
from errorspans.validity import completion
from errorspans.windows import context, expected, is_good, is_window, shows_context
from helpers import AB, LETS, NESTS, ODD_VALUES, Oracle, all_tuples, block, check_for_any_value, random_grammars, token, \
    valid_texts

A, B = token("a"), token("b")
ENDLESS = Grammar(("choice", A, ("sequence", B, block("x"))), blocks=(("x", "o", "c", block("x")), ("y", "p", "q", B)))


def with_markers(tokens):
    return [tokens, (START,) + tokens, tokens + (END,), (START,) + tokens + (END,)]


def without_markers(window):
    return tuple([word for word in window if word not in (START, END)])


class IsWindowTest(unittest.TestCase):

    def test_windows(self):
        for tokens in ((), ("a",), ("a", "b"), ("z", "unknown"), ("a",) * 400):
            for window in with_markers(tokens):
                self.assertIs(is_window(window), True, window)
        self.assertIs(is_window(value=()), True)

    def test_markers_elsewhere(self):
        for value in ((START, START), (END, END), (END, START), ("a", START), (END, "a"), ("a", START, "b"), ("a", END, "b"),
                      (START, START, "a"), ("a", END, END), (START, END, END), (START, END, "a"), ("a", START, END)):
            self.assertIs(is_window(value), False, value)

    def test_any_value(self):
        check_for_any_value(self, is_window)
        check_for_any_value(self, is_window, [START, END, "a", [START], ["a", "b"], ("^a",), ("a$",), ("^$",)])
        for value in ODD_VALUES:
            for window in ((value,), (START, value), (value, END), ("a", value, "b")):
                self.assertIs(is_window(window), False, window)

    def test_all_short_tuples(self):
        for value in all_tuples((START, "a", END), 4):
            inner = value[1:] if value[:1] == (START,) else value
            inner = inner[:-1] if inner[-1:] == (END,) else inner
            self.assertIs(is_window(value), set(inner) <= {"a"}, value)


class GoodWindowsTest(unittest.TestCase):

    def test_pairs(self):
        for window in ((), ("a",), ("b",), ("a", "b"), ("b", "a"), (START,), (END,), (START, END), (START, "a"), ("b", END)):
            self.assertIs(is_good(AB, window), True, window)
        for window in (("a", "a"), ("b", "b"), ("z",), (START, "b"), ("a", END), (START, "a", END), (START, "z"), ("z", END)):
            self.assertIs(is_good(AB, window), False, window)
        self.assertIs(is_good(grammar=AB, window=("a",)), True)

    def test_blocks(self):
        for window in (("num", "rpar", "let"), ("rpar", END), (START, "let", "name", "lpar"), ("comma", "num", "comma")):
            self.assertIs(is_good(LETS, window), True, window)
        for window in (("rpar", "rpar"), ("lpar", "rpar"), ("num", END), (START, "lpar"), ("num", "let"), ("lpar", END)):
            self.assertIs(is_good(LETS, window), False, window)

    def test_open_ends_of_blocks(self):
        self.assertIs(is_good(NESTS, ("c",) * 40 + ("o",) * 40), True)
        self.assertIs(is_good(NESTS, ("q", "c", "q")), True)
        self.assertIs(is_good(NESTS, ("q", "q")), False)
        self.assertIs(is_good(NESTS, ("o", "q")), False)
        self.assertIs(is_good(NESTS, (START,) + ("o",) * 40 + ("c",) * 41), False)
        self.assertIs(is_good(NESTS, ("o",) * 41 + ("c",) * 40 + (END,)), False)
        self.assertIs(is_good(NESTS, ("o",) * 40 + ("c",) * 41 + (END,)), True)

    def test_blocks_that_are_never_read(self):
        for word in ("b", "o", "c", "p", "q"):
            for window in with_markers((word,)):
                self.assertIs(is_good(ENDLESS, window), False, window)
        for window in with_markers(("a", "a")):
            self.assertIs(is_good(ENDLESS, window), True, window)

    def test_all_short_windows(self):
        for grammar in [AB, NESTS, ENDLESS, *random_grammars(60, 10)]:
            shown = {()}
            for text in valid_texts(grammar, 8):
                marked = (START,) + text + (END,)
                shown |= {marked[at:at + length] for at in range(len(marked)) for length in range(1, 6)}
            oracle = Oracle(grammar)
            for tokens in all_tuples((*grammar.tokens(), "z"), 3):
                for window in with_markers(tokens):
                    self.check_window(grammar, window, shown, oracle)

    def check_window(self, grammar, window, shown, oracle):
        """Check is_good and context by what texts show, and expected by is_good."""
        found = context(grammar, window)
        with self.subTest(item=grammar.item, blocks=grammar.blocks, window=window):
            self.assertIs(is_good(grammar, window), found is not None)
            self.assertIs(shows_context(grammar, window, found), found is not None)
            if found is None:
                self.assertNotIn(window, shown)
                self.assertEqual(expected(grammar, window), ())
                return
            before, after = found
            self.assertTrue(oracle.is_valid(before + without_markers(window) + after))
            self.assertFalse(window[:1] == (START,) and before)
            self.assertFalse(window[-1:] == (END,) and after)
            words = [] if END in window else [END, *grammar.tokens()]
            self.assertEqual(expected(grammar, window), tuple([word for word in words if is_good(grammar, window + (word,))]))


class ExpectedTest(unittest.TestCase):

    def test_good_windows(self):
        self.assertEqual(expected(AB, ()), ("$", "a", "b"))
        self.assertEqual(expected(AB, ("a",)), ("b",))
        self.assertEqual(expected(grammar=AB, window=(START, "a", "b")), ("$", "a"))
        self.assertEqual(expected(LETS, ("num",)), ("comma", "rpar"))
        self.assertEqual(expected(LETS, (START,)), ("$", "let"))
        self.assertEqual(expected(NESTS, ("c",)), ("$", "a", "c", "o", "p", "q"))
        self.assertEqual(expected(NESTS, (START, "o", "c")), ("$", "a", "o", "p"))
        self.assertEqual(expected(ENDLESS, ()), ("$", "a"))

    def test_behind_end(self):
        for window in ((END,), (START, END), ("b", END), (START, "a", "b", END)):
            self.assertIs(is_good(AB, window), True)
            self.assertEqual(expected(AB, window), ())

    def test_bad_windows(self):
        for window in (("a", "a"), ("z",), (START, "b"), ("a", END), (START, "a", END)):
            self.assertEqual(expected(AB, window), ())


class ContextTest(unittest.TestCase):

    def check(self, grammar, window):
        """Check the context of a good window, and that pairs near it show it only where they are one, too."""
        before_call = copy.deepcopy(window)
        found = context(grammar, window)
        self.assertEqual(window, before_call)
        self.assertIs(type(found), tuple)
        before, after = found
        oracle = Oracle(grammar)
        self.assertTrue(oracle.is_valid(before + without_markers(window) + after), (window, found))
        self.assertIs(shows_context(grammar, window, found), True)
        for other in ((before, after + ("z",)), (("z",) + before, after), (after, before), (before + before, after)):
            fits = not (window[:1] == (START,) and other[0]) and not (window[-1:] == (END,) and other[1])
            valid = oracle.is_valid(other[0] + without_markers(window) + other[1])
            self.assertIs(shows_context(grammar, window, other), fits and valid, (window, other))

    def test_good_windows(self):
        for window in ((), (START,), (END,), (START, END), ("b", "a"), (START, "a"), ("b", END), ("a", "b")):
            self.check(AB, window)
        for window in (("comma",), ("rpar", "let"), (START, "let", "name", "lpar"), ("num", "rpar", END)):
            self.check(LETS, window)
        for window in (("q", "c", "q"), ("c",) * 40, ("o",) * 40, ("c",) * 40 + ("o",) * 40, ("q", "c", END), (START, "o", "p")):
            self.check(NESTS, window)

    def test_whole_texts(self):
        self.assertEqual(context(AB, (START, "a", "b", END)), ((), ()))
        self.assertEqual(context(grammar=AB, window=(START, "a")), ((), ("b",)))
        self.assertEqual(context(AB, ("b", END)), (("a",), ()))

    def test_blocks_between_the_window_and_the_item(self):
        blocks = (("w", "o", "c", block("x")), ("x", "p", "q", ("sequence", A, block("y"), ("optional", block("w")))),
                  ("y", "s", "t", ("sequence", B, ("repeat", B), ("optional", block("x")))))
        grammar = Grammar(("sequence", A, block("w"), A), blocks=blocks)
        for window in (("b",), ("b", "b", "p"), ("t", "o"), ("q", "t"), ("t", "q", "c"), ("s", "b"), ("c", "q", "t"), ("a",)):
            for marked in with_markers(window):
                self.assertIs(context(grammar, marked) is not None, is_good(grammar, marked))
                if is_good(grammar, marked):
                    self.check(grammar, marked)
            self.assertIs(is_good(grammar, window), True, window)

    def test_bad_windows(self):
        for window in (("a", "a"), ("z",), (START, "b"), ("a", END), (START, "a", END), ("a", "z")):
            self.assertIs(context(AB, window), None)
            for value in (None, (), ((), ()), (("a",), ("b",)), (("b",), ("b",))):
                self.assertIs(shows_context(AB, window, value), False)

    def test_long_windows(self):
        chance = random.Random(11)
        for grammar in (AB, LETS, NESTS):
            text = ()
            while len(text) < 400:
                words = [word for word in expected(grammar, (START,) + text) if word != END]
                if len(completion(grammar, text)) > 35:
                    words = [completion(grammar, text)[0]]
                text += (chance.choice(words),)
            for begin, stop in ((0, 400), (1, 399), (133, 400), (0, 217), (200, 300)):
                self.check(grammar, text[begin:stop])
            self.check(grammar, (START,) + text)

    def test_shows_context(self):
        self.assertIs(shows_context(grammar=AB, window=("b", "a"), value=(("a",), ("b",))), True)
        self.assertIs(shows_context(AB, ("b", "a"), (("a", "b", "a"), ("b", "a", "b"))), True)
        self.assertIs(shows_context(AB, (START, "a"), ((), ("b",))), True)
        self.assertIs(shows_context(AB, (START, "a"), (("a", "b"), ("b",))), False)
        self.assertIs(shows_context(AB, ("b", END), (("a",), ())), True)
        self.assertIs(shows_context(AB, ("b", END), (("a",), ("a", "b"))), False)
        self.assertIs(shows_context(AB, ("a", "b"), ((), ())), True)
        self.assertIs(shows_context(AB, (), (("a", "b") * 300, ())), True)

    def test_shows_context_of_any_value(self):
        check_for_any_value(self, lambda value: shows_context(AB, ("b", "a"), value))
        check_for_any_value(self, lambda value: shows_context(AB, (), value))
        near = [[("a",), ("b",)], (["a"], ("b",)), (("a",), ["b"]), (("a",),), (("a",), ("b",), ()), ("a", "b"),
                (("a",), "b"), ("a", ("b",)), (("a",), None), (None, ("b",)), ((START, "a"), ("b",)), (("a",), ("b", END)),
                (("a",), (("b",),)), (("a",), (True,)), {"a": "b"}, {0: ("a",), 1: ("b",)}]
        check_for_any_value(self, lambda value: shows_context(AB, ("b", "a"), value), near)
        for value in ODD_VALUES:
            self.assertIs(shows_context(AB, ("b", "a"), (("a",), value)), False)
            self.assertIs(shows_context(AB, ("b", "a"), (value, ("b",))), False)


if __name__ == "__main__":
    unittest.main()
