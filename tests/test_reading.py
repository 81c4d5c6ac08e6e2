"""Point 21: what is read, and what is not written just so."""

import random
import unittest

from errorspans.errors import BadSource
from errorspans.expressions import is_expression
from errorspans.grammars import Grammar
from errorspans.reading import read_expression, read_grammar, read_text
from errorspans.showing import show_expression, show_grammar, show_text
from helpers import AB, LETS, NESTS, ODD_VALUES, block, check_arguments_stay, random_grammars, token

A, B = token("a"), token("b")
NO_STRINGS = [value for value in ODD_VALUES if not isinstance(value, str)] + [
    ("a",), ("a", "b"), ("item = a",), ["item = a"], {"item": "a"}, A, ("sequence", A, B)]

# Sources of expressions with one wrong thing each.
NO_EXPRESSIONS = [
    # blanks
    "", " ", "  ", " a", "a ", "a  b", "a b ", " a b", "a |b", "a| b", "a|b", "{a }", "{ a}", "{a}", "{  a }", "{ a  }", "[a]",
    "[ a]", "( a | b )c", "(a | b) c", "a ( b | c)", "a (b | c )", "<x> ", " <x>", "< x >", "<x >", "< x>", "<x><y>", "a<x>",
    "a  | b", "a |  b", "{ a } ", "{ a }{ b }",
    # brackets that are missing, doubled, or of two kinds
    "{ a", "a }", "[ a", "a ]", "( a | b", "a | b )", "( a b c", "{ { a }", "{ a } }", "{ a ]", "[ a }", "( a | b ] c",
    "<x", "x>", "<<x>>", "<x>>", "<>", "{ }", "[ ]", "( )", "()", "{}", "[]", ")", "(", "{", "}", "[", "]", ") a (", "} a {", "a ) b",
    # brackets around what needs none
    "( a )", "( <x> )", "( a b )", "( a | b )", "{ ( a ) }", "{ ( a b ) }", "{ ( a | b ) }", "[ ( a | b ) ]", "[ ( a ) ]",
    "( a ) b", "a ( b )", "a ( { b } )", "( [ a ] ) b", "( a b ) | c", "a | ( b c )", "a | ( b )", "a | ( { b } )",
    "( ( a | b ) ) c", "( ( a b ) ) c", "a | ( ( b | c ) )",
    # bars
    "|", "a |", "| a", "a | | b", "a || b", "{ | }", "{ a | }", "{ | a }", "( a | ) b", "a | b |",
    # words
    "A", "aB", "a1", "1", "0", "abcdefghi", "<A>", "<abcdefghi>", "<1>", "a_b", "a-b", "-", "a.", "a,", "a, b", "=", "a = b", "$", "^",
    "~", "!", "a ;", "'a'", '"a"', "a +", "{ a }+", "a*", "a?", "\u00e9", "\u0430",
    # line feeds and other white space
    "\n", "a\n", "\na", "a\nb", "a \n b", "{ a\n}", "a |\nb", "a\tb", "a\rb", "\t", "a\u00a0b", "a \u2028b",
    # what would be an expression that is too wide or too deep
    " ".join(["a"] * 7), " | ".join(["a"] * 7), " | ".join(["a a a a a a"] * 3), "{ " * 8 + "a" + " }" * 8,
    "[ " * 8 + "a" + " ]" * 8, "( a a a ) ( a a a ) ( a a a ) ( a a a ) ( a a a ) ( a a )",
    "( " * 7 + "a a" + " ) a" * 7, " ".join(["a"] * 2000), "{ " * 999 + "a" + " }" * 999, "( " * 1999, "{ " * 1500 + "a", "a" * 4000,
    "a | ( " * 600 + "b" + " )" * 600, "] " * 1999, "| " * 1999, "( a | b ) " * 363 + "c",
]


class ReadCase(unittest.TestCase):

    def check_refused(self, function, source, row):
        with self.subTest(source=source):
            with self.assertRaises(BadSource) as caught:
                function(source)
            self.assertIs(type(caught.exception), BadSource)
            self.assertEqual(vars(caught.exception), {"row": row})
            self.assertIs(type(caught.exception.row), int)


class ReadExpressionTest(ReadCase):

    def test_expressions(self):
        for source, expression in (
            ("a", A), ("<x>", block("x")), ("a b", ("sequence", A, B)), ("a | b", ("choice", A, B)), ("{ a }", ("repeat", A)),
            ("[ a ]", ("optional", A)), ("{ a } b", ("sequence", ("repeat", A), B)), ("a b | a", ("choice", ("sequence", A, B), A)),
            ("( a | b ) a", ("sequence", ("choice", A, B), A)), ("a ( a b )", ("sequence", A, ("sequence", A, B))),
            ("{ a b | [ a ] }", ("repeat", ("choice", ("sequence", A, B), ("optional", A)))),
            ("{ [ { a } ] }", ("repeat", ("optional", ("repeat", A)))),
            ("( a | b ) | ( b | a )", ("choice", ("choice", A, B), ("choice", B, A))),
            ("( ( a | b ) b ) a", ("sequence", ("sequence", ("choice", A, B), B), A)),
        ):
            self.assertEqual(read_expression(source), expression)
            self.assertEqual(show_expression(expression), source)
        self.assertEqual(read_expression(source="a"), A)

    def test_sources_that_are_not_written_just_so(self):
        for source in NO_EXPRESSIONS:
            self.check_refused(read_expression, source, 0)

    def test_no_strings(self):
        for value in NO_STRINGS:
            self.check_refused(read_expression, value, 0)

    def test_bounds(self):
        for source in (" ".join(["a"] * 6), " | ".join(["a a a a a"] * 3) + " | a", "{ " * 7 + "a" + " }" * 7,
                       "( a a a a ) ( a a a a ) ( a a a a ) ( a a a a )", "( " * 6 + "a a" + " ) a" * 6):
            self.assertIs(is_expression(read_expression(source)), True)
            self.assertEqual(show_expression(read_expression(source)), source)

    def test_what_is_read_is_written_so(self):
        """Sources with a change by chance: what is read is an expression that is written just so, or it is refused."""
        chance = random.Random(151)
        signs = ["a", "b", "<x>", "(", ")", "{", "}", "[", "]", "|", ""]
        taken = 0
        for _ in range(6000):
            words = [chance.choice(signs[:10]) for _ in range(chance.randint(1, 3))]
            if chance.random() < 0.7:
                words = chance.choice(("a ( b | a ) a", "{ a b } | b", "[ a | { b } ] a", "( a b ) <x>")).split(" ")
                at = chance.randrange(len(words))
                words[at:at + chance.randint(0, 1)] = [chance.choice(signs) for _ in range(chance.randint(0, 2))]
            source = " ".join(words)
            try:
                expression = read_expression(source)
            except BadSource as error:
                self.assertEqual(error.row, 0)
                continue
            taken += 1
            self.assertIs(is_expression(expression), True)
            self.assertEqual(show_expression(expression), source)
        self.assertGreater(taken, 500)

    def test_arguments_stay(self):
        check_arguments_stay(self, read_expression, "a ( b | <x> )")


class ReadTextTest(ReadCase):

    def test_texts(self):
        for source, text in (("-", ()), ("a", ("a",)), ("a b", ("a", "b")), ("abcdefgh item", ("abcdefgh", "item"))):
            self.assertEqual(read_text(source), text)
            self.assertEqual(show_text(text), source)
        self.assertEqual(read_text(source="a a"), ("a", "a"))
        self.assertEqual(read_text(" ".join(["a"] * 2000)), ("a",) * 2000)

    def test_sources_that_are_not_written_just_so(self):
        for source in ("", " ", "  ", " a", "a ", "a  b", "- ", " -", "--", "- -", "a -", "- a", "-a", "A", "a B", "a1", "a 1", "abcdefghi",
                       "a abcdefghi", "<x>", "a | b", "{ a }", "$", "^", "^ a", "a $", "\n", "a\n", "\na", "a\nb", "a \n b", "-\n",
                       "a\tb", "a,b", "a, b", "()", "('a',)", "\u00e9", "a\u00a0b"):
            self.check_refused(read_text, source, 0)

    def test_no_strings(self):
        for value in [*NO_STRINGS, ()]:
            self.check_refused(read_text, value, 0)

    def test_arguments_stay(self):
        check_arguments_stay(self, read_text, "a b c")


class ReadGrammarTest(ReadCase):

    def test_grammars(self):
        self.assertEqual(read_grammar("item = a b"), AB)
        self.assertEqual(read_grammar("item = let name <list>\nlist lpar rpar = num { comma num }"), LETS)
        for grammar in (AB, LETS, NESTS, *random_grammars(60, 152)):
            self.assertEqual(read_grammar(source=show_grammar(grammar)), grammar)
        self.assertEqual(read_grammar("item = a\nitem o c = a"), Grammar(A, blocks=(("item", "o", "c", A),)))
        self.assertIsInstance(read_grammar("item = a"), Grammar)

    def test_no_strings(self):
        for value in NO_STRINGS:
            self.check_refused(read_grammar, value, 0)

    def test_first_row(self):
        for row in ("", " ", "item", "item ", "item =", "item = ", "item=a", "item =a", "item= a", " item = a", "item  = a", "item =  a",
                    "item = a ", "Item = a", "items = a", "a", "a = b", "x o c = a", "item o = a", "item = = a", "item = a = b",
                    "item = item = a", "= a", " = a", "item = A", "item\t= a", "-", "item = a\r"):
            self.check_refused(read_grammar, row, 0)
            self.check_refused(read_grammar, row + "\nx o c = a", 0)
            self.check_refused(read_grammar, row + "\nx", 0)
        for source in NO_EXPRESSIONS:
            if "\n" not in source:
                self.check_refused(read_grammar, "item = " + source, 0)

    def test_later_rows(self):
        rows = ["item = a", "w ow cw = a", "x ox cx = a", "y oy cy = a"]
        wrong = ["", " ", "item = a", "x o = a", "x o c d = a", "x o c =", "x o c = ", "x o c a", "x o c=a", "x  o c = a", "x o  c = a",
                 " x o c = a", "x o c  = a", "x o c =  a", "x o c = a ", "X o c = a", "x O c = a", "x o C = a", "x o 1 = a", "= a",
                 " = a", "abcdefghi o c = a", "x abcdefghi c = a", "x o abcdefghi = a", "x o c = a = b", "<x> o c = a",
                 "x o c = A", "x,o,c = a", "-", "x o c = { a", "x o c = " + " ".join(["a"] * 7)]
        for count in (1, 2, 4):
            for row in wrong:
                self.check_refused(read_grammar, "\n".join(rows[:count] + [row]), count)
                # What comes behind the first wrong row does not count.
                self.check_refused(read_grammar, "\n".join(rows[:count] + [row, "", "z o c = a"]), count)
        for source in NO_EXPRESSIONS:
            if "\n" not in source:
                self.check_refused(read_grammar, "item = a\nx o c = " + source, 1)

    def test_line_feeds(self):
        self.check_refused(read_grammar, "\n", 0)
        self.check_refused(read_grammar, "\nitem = a", 0)
        self.check_refused(read_grammar, "item = a\n", 1)
        self.check_refused(read_grammar, "item = a\n\nx o c = a", 1)
        self.check_refused(read_grammar, "item = a\nx o c = a\n", 2)
        self.check_refused(read_grammar, "item = a\n|\nb", 1)
        self.check_refused(read_grammar, "item\n= a", 0)

    def test_rows_that_are_no_grammar_together(self):
        for rows in (
            ["item = a", "y o c = a", "x p q = a"], ["item = a", "x o c = a", "x p q = a"], ["item = a", "x o o = a"],
            ["item = o", "x o c = a"], ["item = c", "x o c = a"], ["item = a", "x o c = o"], ["item = a", "x o c = { a | c }"],
            ["item = a", "x o c = a", "y o q = a"], ["item = a", "x o c = a", "y p c = a"], ["item = a", "x o c = a", "y c q = a"],
            ["item = <x>"], ["item = a <y>", "x o c = a"], ["item = a", "x o c = <y>"], ["item = a", "x o c = [ <x> <z> ]"],
            ["item = a", "v ov cv = a", "w ow cw = a", "x ox cx = a", "y oy cy = a", "z oz cz = a"],
            ["item = a"] + ["x o c = a"] * 40,
        ):
            self.check_refused(read_grammar, "\n".join(rows), len(rows))

    def test_a_wrong_row_comes_ahead_of_what_the_rows_are_together(self):
        self.check_refused(read_grammar, "item = <z>\ny o c = a\nx o c = A", 2)
        self.check_refused(read_grammar, "item = a\nx o c = a\nx o c = a\nx o c\nx o c = a", 3)

    def test_arguments_stay(self):
        check_arguments_stay(self, read_grammar, show_grammar(NESTS))


if __name__ == "__main__":
    unittest.main()
