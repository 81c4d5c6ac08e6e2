"""The examples of the document, as they stand there."""

import ast
import unittest

EXAMPLES = r'''
>>> from errorspans.tokens import is_token
>>> is_token("num")
True

>>> from errorspans.expressions import is_expression
>>> is_expression(("repeat", ("token", "a")))
True

>>> from errorspans.expressions import leaves
>>> leaves(("choice", ("token", "a"), ("block", "b")))
(('token', 'a'), ('block', 'b'))

>>> from errorspans.expressions import next_leaves
>>> next_leaves(("sequence", ("optional", ("token", "a")), ("token", "b")), 0)
(1, 2)

>>> from errorspans.expressions import may_end
>>> may_end(("repeat", ("token", "a")), 0)
True

>>> from errorspans.grammars import Grammar
>>> Grammar(("token", "A"))
raises BadGrammar(field='item')

>>> from errorspans.grammars import Grammar
>>> lets = Grammar(("sequence", ("token", "let"), ("token", "name"), ("block", "list")), blocks=(("list", "lpar", "rpar", ("sequence", ("token", "num"), ("repeat", ("sequence", ("token", "comma"), ("token", "num"))))),))
>>> lets.tokens()
('comma', 'let', 'lpar', 'name', 'num', 'rpar')

>>> from errorspans.grammars import Grammar, mirrored
>>> ab = Grammar(("sequence", ("token", "a"), ("token", "b")))
>>> mirrored(ab).item
('sequence', ('token', 'b'), ('token', 'a'))

>>> from errorspans.grammars import Grammar
>>> from errorspans.validity import is_valid
>>> ab = Grammar(("sequence", ("token", "a"), ("token", "b")))
>>> is_valid(ab, ("a", "b", "a", "b"))
True

>>> from errorspans.grammars import Grammar
>>> from errorspans.states import live_states
>>> g = Grammar(("choice", ("token", "a"), ("block", "x")), blocks=(("x", "o", "c", ("block", "x")),))
>>> live_states(g)
(('', 0), ('', 1))

>>> from errorspans.grammars import Grammar
>>> from errorspans.states import followers
>>> ab = Grammar(("sequence", ("token", "a"), ("token", "b")))
>>> followers(ab, ("", 2))
(('', 1),)

>>> from errorspans.grammars import Grammar
>>> from errorspans.states import can_end
>>> ab = Grammar(("sequence", ("token", "a"), ("token", "b")))
>>> can_end(ab, ("", 1))
False

>>> from errorspans.grammars import Grammar
>>> from errorspans.validity import completion
>>> lets = Grammar(("sequence", ("token", "let"), ("token", "name"), ("block", "list")), blocks=(("list", "lpar", "rpar", ("sequence", ("token", "num"), ("repeat", ("sequence", ("token", "comma"), ("token", "num"))))),))
>>> completion(lets, ("let", "name", "lpar"))
('num', 'rpar')

>>> from errorspans.windows import is_window
>>> is_window(("a", "^"))
False

>>> from errorspans.grammars import Grammar
>>> from errorspans.windows import is_good
>>> ab = Grammar(("sequence", ("token", "a"), ("token", "b")))
>>> [is_good(ab, ("b", "a")), is_good(ab, ("a", "a"))]
[True, False]

>>> from errorspans.grammars import Grammar
>>> from errorspans.windows import expected
>>> ab = Grammar(("sequence", ("token", "a"), ("token", "b")))
>>> expected(ab, ("^",))
('$', 'a')

>>> from errorspans.grammars import Grammar
>>> from errorspans.windows import context, shows_context
>>> ab = Grammar(("sequence", ("token", "a"), ("token", "b")))
>>> shows_context(ab, ("b", "a"), context(ab, ("b", "a")))
True

>>> from errorspans.grammars import Grammar
>>> from errorspans.scanner import Scanner
>>> ab = Grammar(("sequence", ("token", "a"), ("token", "b")))
>>> scanner = Scanner(ab)
>>> scanner.feed("b")
>>> [scanner.states(), scanner.expected()]
[(('', 2),), ('$', 'a')]

>>> from errorspans.conflicts import window_at
>>> window_at(("a", "b"), -1, 1)
('^', 'a')

>>> from errorspans.grammars import Grammar
>>> from errorspans.conflicts import reach
>>> ab = Grammar(("sequence", ("token", "a"), ("token", "b")))
>>> [reach(ab, ("a", "a", "b"), -1), reach(ab, ("a", "a", "b"), 1)]
[1, 4]

>>> from errorspans.grammars import Grammar
>>> from errorspans.conflicts import conflicts
>>> ab = Grammar(("sequence", ("token", "a"), ("token", "b")))
>>> conflicts(ab, ("a", "a", "b"))
((0, 2),)

>>> from errorspans.grammars import Grammar
>>> from errorspans.spans import error_count
>>> ab = Grammar(("sequence", ("token", "a"), ("token", "b")))
>>> error_count(ab, ("b", "a"))
2

>>> from errorspans.grammars import Grammar
>>> from errorspans.spans import spans
>>> ab = Grammar(("sequence", ("token", "a"), ("token", "b")))
>>> spans(ab, ("b", "a"))
((0, 0), (1, 2))

>>> from errorspans.grammars import Grammar
>>> from errorspans.spans import earliest, latest
>>> ab = Grammar(("sequence", ("token", "a"), ("token", "b")))
>>> [earliest(ab, ("a", "a", "a")), latest(ab, ("a", "a", "a"))]
[(0, 2), (1, 3)]

>>> from errorspans.grammars import Grammar
>>> from errorspans.solutions import count_solutions, is_solution
>>> ab = Grammar(("sequence", ("token", "a"), ("token", "b")))
>>> [count_solutions(ab, ("a", "a", "a")), is_solution(ab, ("a", "a", "a"), (0, 3))]
[3, False]

>>> from errorspans.grammars import Grammar
>>> from errorspans.solutions import solution_at
>>> ab = Grammar(("sequence", ("token", "a"), ("token", "b")))
>>> solution_at(ab, ("a", "a", "a"), 0)
(0, 2)

>>> from errorspans.grammars import Grammar
>>> from errorspans.witnesses import is_witness, witness
>>> ab = Grammar(("sequence", ("token", "a"), ("token", "b")))
>>> [len(witness(ab, ("b", "a"))), is_witness(ab, ("b", "a"), ((-1, 1), (1, 3)))]
[2, True]

>>> from errorspans.grammars import Grammar
>>> from errorspans.refutations import refutation, shows_refutation
>>> ab = Grammar(("sequence", ("token", "a"), ("token", "b")))
>>> shows_refutation(ab, ("a", "a"), refutation(ab, ("a", "a")))
True

>>> from errorspans.grammars import Grammar
>>> from errorspans.refutations import shows_refutation
>>> ab = Grammar(("sequence", ("token", "a"), ("token", "b")))
>>> shows_refutation(ab, ("a", "a"), ((((("", 0), ("", 1), ("", 2)), ())), ((("", 1), ("", 2)), ())))
False

>>> from errorspans.repairs import apply_repair
>>> apply_repair(("a", "a", "b"), ((1, ("b", "a")),))
('a', 'b', 'a', 'b')

>>> from errorspans.grammars import Grammar
>>> from errorspans.repairs import is_repair, repair
>>> ab = Grammar(("sequence", ("token", "a"), ("token", "b")))
>>> is_repair(ab, ("b", "a"), repair(ab, ("b", "a")))
True

>>> from errorspans.grammars import Grammar
>>> from errorspans.repairs import repair_at
>>> ab = Grammar(("sequence", ("token", "a"), ("token", "b")))
>>> repair_at(ab, ("a", "a", "a"), (0, 3))
None

>>> from errorspans.grammars import Grammar
>>> from errorspans.fixes import fix, is_fix
>>> ab = Grammar(("sequence", ("token", "a"), ("token", "b")))
>>> [is_fix(ab, ("a", "a", "a"), 1, ()), fix(ab, ("a", "b"), 0)]
[True, None]

>>> from errorspans.grammars import Grammar
>>> from errorspans.fixes import quick_fixes
>>> ab = Grammar(("sequence", ("token", "a"), ("token", "b")))
>>> quick_fixes(ab, ("a", "a", "b"), 0)
((0, ()), (0, ('a', 'b')), (1, ()), (1, ('b', 'a')))

>>> from errorspans.grammars import Grammar
>>> from errorspans.gaps import gap_spans
>>> ab = Grammar(("sequence", ("token", "a"), ("token", "b")))
>>> [gap_spans(ab, ("a", "a", "b")), gap_spans(ab, ("a", "a", "a"))]
[((1, 1),), ((1, 1), (2, 2), (3, 3))]

>>> from errorspans.gaps import apply_insertions
>>> apply_insertions(("a", "a", "b"), ((1, ("b",)),))
('a', 'b', 'a', 'b')

>>> from errorspans.grammars import Grammar
>>> from errorspans.reporter import Reporter
>>> ab = Grammar(("sequence", ("token", "a"), ("token", "b")))
>>> reporter = Reporter(ab)
>>> [reporter.feed("a"), reporter.feed("a"), reporter.feed("b"), reporter.finish()]
[None, 1, None, None]

>>> from errorspans.grammars import Grammar
>>> from errorspans.documents import Document
>>> ab = Grammar(("sequence", ("token", "a"), ("token", "b")))
>>> document = Document(ab, text=("a", "b"))
>>> document.insert_tokens(1, ("a",))
>>> [document.text(), document.spans()]
[('a', 'a', 'b'), ((0, 1),)]

>>> from errorspans.grammars import Grammar
>>> from errorspans.documents import Document
>>> ab = Grammar(("sequence", ("token", "a"), ("token", "b")))
>>> document = Document(ab)
>>> document.replace_range(0, 1, ())
raises BadRange(value=(0, 1))

>>> from errorspans.grammars import Grammar
>>> from errorspans.longtexts import long_error_count
>>> ab = Grammar(("sequence", ("token", "a"), ("token", "b")))
>>> long_error_count(ab, ((10 ** 18, ("a",)),))
500000000000000000

>>> from errorspans.grammars import Grammar
>>> from errorspans.longtexts import long_span
>>> ab = Grammar(("sequence", ("token", "a"), ("token", "b")))
>>> long_span(ab, ((10 ** 18, ("a",)), (1, ("b",))), 2)
(4, 5)

>>> from errorspans.grammars import Grammar
>>> from errorspans.comparing import difference
>>> ab = Grammar(("sequence", ("token", "a"), ("token", "b")))
>>> len(difference(ab, Grammar(("sequence", ("token", "a"), ("optional", ("token", "b"))))))
2

>>> from errorspans.showing import show_expression
>>> show_expression(("sequence", ("token", "a"), ("choice", ("token", "b"), ("block", "c"))))
'a ( b | <c> )'

>>> from errorspans.reading import read_expression
>>> read_expression("a { b } | [ c ]")
('choice', ('sequence', ('token', 'a'), ('repeat', ('token', 'b'))), ('optional', ('token', 'c')))

>>> from errorspans.grammars import Grammar
>>> from errorspans.reports import report
>>> ab = Grammar(("sequence", ("token", "a"), ("token", "b")))
>>> report(ab, ("a", "a", "b"), 0)
(0, 1, (0, 2), ('b',))

>>> from errorspans.grammars import Grammar
>>> from errorspans.reports import report, show_report
>>> ab = Grammar(("sequence", ("token", "a"), ("token", "b")))
>>> show_report(report(ab, ("a", "a", "b"), 0))
'0-1: expected b'

>>> from errorspans.session import Session
>>> session = Session("item = a b")
>>> session.say("text a a b")
>>> session.say("spans")
'0-1'
'''


def outcome(rows):
    """Run the rows; return what the last one gives, written as in the document."""
    names = {}
    try:
        for row in rows[:-1]:
            exec(row, names)
        return repr(eval(rows[-1], names))
    except ValueError as error:
        told = ", ".join([f"{name}={value!r}" for name, value in vars(error).items()])
        return f"raises {type(error).__name__}({told})"


class ExamplesTest(unittest.TestCase):

    def test_examples(self):
        examples = EXAMPLES.strip().split("\n\n")
        self.assertEqual(len(examples), 47)
        for example in examples:
            *rows, result = example.split("\n")
            with self.subTest(example=example):
                self.assertTrue(all([row.startswith(">>> ") for row in rows]))
                if not result.startswith("raises "):
                    ast.literal_eval(result)
                self.assertEqual(outcome([row[4:] for row in rows]), result)


if __name__ == "__main__":
    unittest.main()
