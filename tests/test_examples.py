"""The examples of the document, as they stand there."""

import ast
import unittest

EXAMPLES = r'''
>>> from errorspans.tokens import is_token
>>> is_token("num")
True

>>> from errorspans.expressions import is_expression
>>> is_expression(("repeat", ("token", "a")))
True

>>> from errorspans.expressions import leaves
>>> leaves(("choice", ("token", "a"), ("block", "b")))
(('token', 'a'), ('block', 'b'))

>>> from errorspans.expressions import next_leaves
>>> next_leaves(("sequence", ("optional", ("token", "a")), ("token", "b")), 0)
(1, 2)

>>> from errorspans.expressions import may_end
>>> may_end(("repeat", ("token", "a")), 0)
True

>>> from errorspans.grammars import Grammar
>>> Grammar(("token", "A"))
raises BadGrammar(field='item')

>>> from errorspans.grammars import Grammar
>>> lets = Grammar(("sequence", ("token", "let"), ("token", "name"), ("block", "list")), blocks=(("list", "lpar", "rpar", ("sequence", ("token", "num"), ("repeat", ("sequence", ("token", "comma"), ("token", "num"))))),))
>>> lets.tokens()
('comma', 'let', 'lpar', 'name', 'num', 'rpar')

>>> from errorspans.grammars import Grammar, mirrored
>>> ab = Grammar(("sequence", ("token", "a"), ("token", "b")))
>>> mirrored(ab).item
('sequence', ('token', 'b'), ('token', 'a'))
'''


def outcome(rows):
    """Run the rows; return what the last one gives, written as in the document."""
    names = {}
    try:
        for row in rows[:-1]:
            exec(row, names)
        return repr(eval(rows[-1], names))
    except ValueError as error:
        told = ", ".join([f"{name}={value!r}" for name, value in vars(error).items()])
        return f"raises {type(error).__name__}({told})"


class ExamplesTest(unittest.TestCase):

    def test_examples(self):
        for example in EXAMPLES.strip().split("\n\n"):
            *rows, result = example.split("\n")
            with self.subTest(example=example):
                self.assertTrue(all([row.startswith(">>> ") for row in rows]))
                if not result.startswith("raises "):
                    ast.literal_eval(result)
                self.assertEqual(outcome([row[4:] for row in rows]), result)


if __name__ == "__main__":
    unittest.main()
