"""Point 21: how expressions, grammars and texts are written."""

import random
import unittest

from errorspans.expressions import is_expression
from errorspans.grammars import Grammar
from errorspans.reading import read_expression, read_grammar, read_text
from errorspans.showing import show_expression, show_grammar, show_text
from helpers import AB, LETS, NESTS, block, check_arguments_stay, facts_of, random_expression, random_grammars, token, \
    wide_expression

A, B = token("a"), token("b")
KINDS = {
    "token": (A, "a"), "block": (block("x"), "<x>"), "sequence": (("sequence", A, B), "a b"),
    "choice": (("choice", A, B), "a | b"), "repeat": (("repeat", A), "{ a }"), "optional": (("optional", A), "[ a ]"),
}


def slow_source(expression):
    """Return the expression as point 21 writes it, by rules for each pair of kinds."""
    kind, *parts = expression
    if kind == "token":
        return parts[0]
    if kind == "block":
        return "<" + parts[0] + ">"
    shown = [slow_source(part) for part in parts]
    if kind == "repeat":
        return "{ " + shown[0] + " }"
    if kind == "optional":
        return "[ " + shown[0] + " ]"
    needs = {"sequence": ["sequence", "choice"], "choice": ["choice"]}[kind]
    shown = ["( " + text + " )" if part[0] in needs else text for part, text in zip(parts, shown)]
    return {"sequence": " ", "choice": " | "}[kind].join(shown)


class ShowExpressionTest(unittest.TestCase):

    def check(self, expression, source):
        self.assertIs(is_expression(expression), True)
        self.assertEqual(show_expression(expression), source)
        self.assertEqual(slow_source(expression), source)
        self.assertEqual(read_expression(source), expression)

    def test_each_kind(self):
        for expression, source in KINDS.values():
            self.check(expression, source)
        self.check(token("abcdefgh"), "abcdefgh")
        self.check(block("item"), "<item>")
        self.check(token("item"), "item")

    def test_each_kind_in_each_kind(self):
        for kind, (inner, source) in KINDS.items():
            self.check(("repeat", inner), "{ " + source + " }")
            self.check(("optional", inner), "[ " + source + " ]")
            bracketed = "( " + source + " )"
            shown = bracketed if kind in ("sequence", "choice") else source
            self.check(("sequence", inner, B), shown + " b")
            self.check(("sequence", B, inner), "b " + shown)
            self.check(("sequence", inner, inner), shown + " " + shown)
            shown = bracketed if kind == "choice" else source
            self.check(("choice", inner, B), shown + " | b")
            self.check(("choice", B, inner), "b | " + shown)
            self.check(("choice", inner, inner), shown + " | " + shown)

    def test_three_levels(self):
        for outer in ("sequence", "choice", "repeat", "optional"):
            for middle in ("sequence", "choice", "repeat", "optional"):
                for inner, _ in KINDS.values():
                    expression = (middle, inner) if middle in ("repeat", "optional") else (middle, inner, B, inner)
                    expression = (outer, expression) if outer in ("repeat", "optional") else (outer, A, expression)
                    self.check(expression, slow_source(expression))

    def test_six_parts(self):
        words = ["a", "b", "c", "d", "e", "f"]
        self.check(("sequence", *[token(word) for word in words]), "a b c d e f")
        self.check(("choice", *[token(word) for word in words]), "a | b | c | d | e | f")

    def test_sixteen_leaves(self):
        four = ("sequence", A, B, A, B)
        self.check(("choice", four, four, four, four), "a b a b | a b a b | a b a b | a b a b")
        self.check(("sequence", four, four, four, four), " ".join(["( a b a b )"] * 4))

    def test_eight_levels(self):
        expression, source = A, "a"
        for level in range(7):
            kind, first, last = (("repeat", "{ ", " }"), ("optional", "[ ", " ]"))[level % 2]
            expression, source = (kind, expression), first + source + last
        self.check(expression, source)
        expression, source = ("sequence", A, A), "a a"
        for _ in range(6):
            expression, source = ("sequence", expression, A), "( " + source + " ) a"
        self.check(expression, source)
        expression, source = ("choice", A, A), "a | a"
        for _ in range(6):
            expression, source = ("choice", A, expression), "a | ( " + source + " )"
        self.check(expression, source)

    def test_random_expressions(self):
        chance = random.Random(141)
        found = set()
        for _ in range(1500):
            expression = random_expression(chance, chance.randint(1, 5), ["a", "b", "abcdefgh"], ["x", "item"])
            if is_expression(expression):
                self.check(expression, slow_source(expression))
                found.add(expression)
        self.assertGreater(len(found), 300)
        # Unlike expressions are written unlike.
        self.assertEqual(len({show_expression(expression) for expression in found}), len(found))

    def test_wide_expressions(self):
        chance = random.Random(142)
        for _ in range(300):
            expression = wide_expression(chance, chance.randint(10, 16), ["a", "abcdefgh"], ["x"])
            self.check(expression, slow_source(expression))

    def test_by_name_and_arguments_stay(self):
        self.assertEqual(show_expression(expression=A), "a")
        check_arguments_stay(self, show_expression, NESTS.item)


class ShowGrammarTest(unittest.TestCase):

    def test_rows(self):
        self.assertEqual(show_grammar(AB), "item = a b")
        self.assertEqual(show_grammar(LETS), "item = let name <list>\nlist lpar rpar = num { comma num }")
        self.assertEqual(show_grammar(NESTS), "item = a | <x> [ <y> ]\nx o c = { a | <x> | <y> }\ny p q = b [ <x> ]")

    def test_none_to_four_blocks(self):
        blocks = (("item", "ow", "cw", A), ("x", "ox", "cx", block("y")), ("y", "oy", "cy", ("choice", A, ("choice", A, B))),
                  ("z", "item", "cz", ("sequence", ("sequence", A, B), B)))
        rows = ["item = a", "item ow cw = a", "x ox cx = <y>", "y oy cy = a | ( a | b )", "z item cz = ( a b ) b"]
        for count in (0, 1, 3, 4):
            grammar = Grammar(A, blocks=blocks[:count])
            self.assertEqual(show_grammar(grammar), "\n".join(rows[:count + 1]))
            self.assertEqual(read_grammar(show_grammar(grammar)), grammar)

    def test_random_grammars(self):
        for grammar in random_grammars(300, 143):
            source = show_grammar(grammar)
            self.assertEqual(read_grammar(source), grammar)
            self.assertEqual(show_grammar(read_grammar(source)), source)

    def test_by_name_and_arguments_stay(self):
        before = facts_of(NESTS)
        self.assertEqual(show_grammar(grammar=NESTS), show_grammar(NESTS))
        self.assertEqual(facts_of(NESTS), before)


class ShowTextTest(unittest.TestCase):

    def test_texts(self):
        for text, source in (((), "-"), (("a",), "a"), (("a", "b"), "a b"), (("let",) * 3, "let let let")):
            self.assertEqual(show_text(text), source)
            self.assertEqual(read_text(source), text)
        many = ("abcdefgh", "z") * 200
        self.assertEqual(show_text(many), " ".join(many))
        self.assertEqual(read_text(show_text(many)), many)

    def test_by_name_and_arguments_stay(self):
        self.assertEqual(show_text(text=("a", "b")), "a b")
        check_arguments_stay(self, show_text, ("a", "b"))


if __name__ == "__main__":
    unittest.main()
