"""Point 6: grammars."""

import copy
import unittest

from errorspans.errors import BadGrammar, NoBlock
from errorspans.grammars import Grammar, mirrored
from helpers import AB, LETS, NESTS, ODD_VALUES, block, random_grammars, token

A, B = token("a"), token("b")
X = ("x", "o", "c", A)
Y = ("y", "p", "q", B)


class BadGrammarTest(unittest.TestCase):

    def check(self, field, item, blocks=()):
        item_before, blocks_before = copy.deepcopy((item, blocks))
        with self.subTest(item=item, blocks=blocks):
            with self.assertRaises(BadGrammar) as caught:
                Grammar(item, blocks=blocks)
            self.assertEqual(caught.exception.field, field)
            self.assertEqual((item, blocks), (item_before, blocks_before))

    def test_item(self):
        for value in ODD_VALUES:
            self.check("item", value)
        self.check("item", token("A"))
        self.check("item", "a")
        self.check("item", ("sequence", A))
        self.check("item", ("sequence", *[A] * 7))
        self.check("item", ("choice", *[("choice", *[A] * 6)] * 3))

    def test_blocks_is_no_tuple_of_blocks(self):
        for value in ODD_VALUES:
            self.check("blocks", A, value)
            self.check("blocks", A, (value,))
            self.check("blocks", A, (X, value))
        self.check("blocks", A, X)
        self.check("blocks", A, [X])
        self.check("blocks", A, {"x": X})
        self.check("blocks", A, (list(X),))

    def test_parts_of_a_block(self):
        for at in range(4):
            for value in ODD_VALUES:
                self.check("blocks", A, (X[:at] + (value,) + X[at + 1:],))
        self.check("blocks", A, (X[:3],))
        self.check("blocks", A, (X + (A,),))
        self.check("blocks", A, (("x", "o", "c", "a"),))
        self.check("blocks", A, (("x", "^", "c", A),))
        self.check("blocks", A, (("x", "o", "$", A),))
        self.check("blocks", A, (("abcdefghi", "o", "c", A),))

    def test_order_of_blocks(self):
        self.check("blocks", A, (Y, X))
        self.check("blocks", A, (X, ("x", "p", "q", B)))
        self.check("blocks", A, (X, Y, ("xz", "s", "t", A)))

    def test_number_of_blocks(self):
        blocks = tuple([(name, "o" + name, "c" + name, A) for name in "vwxyz"])
        self.check("blocks", A, blocks)
        for count in range(5):
            self.assertEqual(Grammar(A, blocks=blocks[:count]).blocks, blocks[:count])

    def test_tokens(self):
        self.check("tokens", A, (("x", "o", "o", A),))
        self.check("tokens", A, (X, ("y", "o", "q", B)))
        self.check("tokens", A, (X, ("y", "p", "c", B)))
        self.check("tokens", A, (X, ("y", "c", "q", B)))
        self.check("tokens", A, (X, ("y", "p", "o", B)))
        self.check("tokens", token("o"), (X,))
        self.check("tokens", token("c"), (X,))
        self.check("tokens", ("repeat", ("sequence", A, ("optional", token("c")))), (X,))
        self.check("tokens", A, (("x", "o", "c", token("o")),))
        self.check("tokens", A, (("x", "o", "c", ("repeat", token("c"))),))
        self.check("tokens", A, (X, ("y", "p", "q", ("choice", B, token("o")))))
        self.check("tokens", A, (("x", "o", "c", token("q")), Y))

    def test_names(self):
        self.check("names", block("x"))
        self.check("names", ("sequence", A, ("repeat", block("y"))), (X,))
        self.check("names", A, (("x", "o", "c", block("y")),))
        self.check("names", A, (("x", "o", "c", ("optional", block("o"))),))

    def test_the_first_field_is_told(self):
        wrong_tokens = (("x", "o", "o", block("z")),)
        self.check("item", None, None)
        self.check("item", None, wrong_tokens)
        self.check("item", None, (("x", "o", "c", block("z")),))
        self.check("blocks", block("z"), None)
        self.check("blocks", token("o"), (X, X))
        self.check("blocks", block("z"), (Y, X))
        self.check("tokens", block("z"), wrong_tokens)
        self.check("tokens", ("choice", block("z"), token("o")), (X,))

    def test_blocks_by_name_only(self):
        with self.assertRaises(TypeError):
            Grammar(A, (X,))
        with self.assertRaises(TypeError):
            Grammar()


class GrammarTest(unittest.TestCase):

    def test_attributes(self):
        grammar = Grammar(item=("choice", A, block("x")), blocks=(X, Y))
        self.assertEqual(grammar.item, ("choice", A, block("x")))
        self.assertEqual(grammar.blocks, (X, Y))
        self.assertEqual(Grammar(A).blocks, ())

    def test_names_that_are_tokens_too(self):
        grammar = Grammar(("sequence", A, block("a")), blocks=(("a", "o", "c", token("x")), ("o", "p", "q", block("a"))))
        self.assertEqual(grammar.tokens(), ("a", "c", "o", "p", "q", "x"))

    def test_equal(self):
        for grammar in (AB, LETS, NESTS):
            same = Grammar(copy.deepcopy(grammar.item), blocks=copy.deepcopy(grammar.blocks))
            self.assertIs(grammar == same, True)
            self.assertIs(grammar != same, False)

    def test_unlike(self):
        grammar = Grammar(A, blocks=(X,))
        for other in (Grammar(A), Grammar(B, blocks=(X,)), Grammar(A, blocks=(X, Y)), Grammar(A, blocks=(Y,)),
                      Grammar(A, blocks=(("x", "c", "o", A),)), Grammar(A, blocks=(("x", "o", "c", B),)),
                      Grammar(A, blocks=(("y", "o", "c", A),))):
            self.assertIs(grammar == other, False)
            self.assertIs(grammar != other, True)

    def test_equals_nothing_else(self):
        class Alike:
            item, blocks = A, ()

        for other in [*ODD_VALUES, A, (A, ()), Alike(), Grammar]:
            self.assertIs(Grammar(A) == other, False)
            self.assertIs(other == Grammar(A), False)
            self.assertIs(Grammar(A) != other, True)

    def test_tokens(self):
        self.assertEqual(AB.tokens(), ("a", "b"))
        self.assertEqual(NESTS.tokens(), ("a", "b", "c", "o", "p", "q"))
        self.assertEqual(Grammar(("sequence", B, A, B)).tokens(), ("a", "b"))

    def test_tokens_of_blocks_that_nothing_reads(self):
        grammar = Grammar(A, blocks=(("x", "z", "k", ("repeat", token("m"))), ("y", "p", "q", block("y"))))
        self.assertEqual(grammar.tokens(), ("a", "k", "m", "p", "q", "z"))

    def test_block(self):
        grammar = Grammar(A, blocks=(X, Y))
        self.assertEqual(grammar.block("x"), X)
        self.assertEqual(grammar.block(name="y"), Y)

    def test_no_block(self):
        for grammar in (Grammar(A, blocks=(X, Y)), Grammar(A)):
            for value in [*ODD_VALUES, "z", "a", "o", X, "^"]:
                with self.subTest(value=value):
                    with self.assertRaises(NoBlock) as caught:
                        grammar.block(value)
                    self.assertIs(caught.exception.name, value)


class MirroredTest(unittest.TestCase):

    def test_sequences_at_any_depth(self):
        inner = ("sequence", B, ("optional", ("sequence", A, ("choice", ("sequence", A, B), B))))
        item = ("sequence", A, ("repeat", inner), block("x"))
        turned = ("sequence", ("optional", ("sequence", ("choice", ("sequence", B, A), B), A)), B)
        expected = ("sequence", block("x"), ("repeat", turned), A)
        grammar = mirrored(grammar=Grammar(item, blocks=(X,)))
        self.assertEqual(grammar.item, expected)

    def test_blocks(self):
        blocks = (("x", "o", "c", ("sequence", A, block("y"), A)), ("y", "p", "q", ("choice", A, B)))
        self.assertEqual(mirrored(Grammar(A, blocks=blocks)).blocks,
                         (("x", "c", "o", ("sequence", A, block("y"), A)), ("y", "q", "p", ("choice", A, B))))
        self.assertEqual(mirrored(LETS).block("list")[1:3], ("rpar", "lpar"))

    def test_choices_stay_in_order(self):
        self.assertEqual(mirrored(Grammar(("choice", A, B, ("sequence", A, B, B)))).item,
                         ("choice", A, B, ("sequence", B, B, A)))

    def test_the_grammar_itself_stays(self):
        before = copy.deepcopy((LETS.item, LETS.blocks))
        mirrored(LETS)
        self.assertEqual((LETS.item, LETS.blocks), before)

    def test_twice(self):
        for grammar in [AB, LETS, NESTS, *random_grammars(100, 1)]:
            self.assertEqual(mirrored(mirrored(grammar)), grammar)
            self.assertEqual(mirrored(grammar).tokens(), grammar.tokens())


if __name__ == "__main__":
    unittest.main()
