"""Points 7 and 9, and the last paragraph of point 6: valid texts and completions."""

import copy
import random
import unittest

from errorspans.errors import NotPrefix
from errorspans.grammars import Grammar, mirrored
from errorspans.validity import completion, is_valid
from helpers import AB, LETS, NESTS, Oracle, all_tuples, block, random_grammars, token, valid_texts

A, B = token("a"), token("b")
LIST = ("let", "name", "lpar", "num", "rpar")


def random_valid_text(chance, grammar, length):
    """Return a valid text that is at least so long, by choosing tokens that go on and then a completion."""
    text = ()
    while len(text) < length:
        word = chance.choice(grammar.tokens())
        try:
            completion(grammar, text + (word,))
        except NotPrefix:
            continue
        text += (word,)
    return text + completion(grammar, text)


class IsValidTest(unittest.TestCase):

    def check(self, grammar, text, expected):
        """Check the text, and the reversed one by the mirrored grammar."""
        with self.subTest(item=grammar.item, text=text):
            before = copy.deepcopy(text)
            self.assertIs(is_valid(grammar, text), expected)
            self.assertIs(is_valid(mirrored(grammar), text[::-1]), expected)
            self.assertEqual(text, before)

    def test_empty_text(self):
        for grammar in (AB, LETS, NESTS, Grammar(("repeat", A)), Grammar(block("x"), blocks=(("x", "o", "c", block("x")),))):
            self.check(grammar, (), True)

    def test_items_one_behind_another(self):
        self.check(AB, ("a", "b"), True)
        self.check(AB, ("a", "b") * 3, True)
        self.check(AB, ("a",), False)
        self.check(AB, ("b", "a"), False)
        self.check(AB, ("a", "b", "a"), False)
        self.check(AB, ("a", "a", "b", "b"), False)
        self.check(LETS, LIST + LIST, True)
        self.assertIs(is_valid(grammar=AB, text=("a", "b")), True)

    def test_optional_and_repeated_parts(self):
        grammar = Grammar(("sequence", A, ("optional", B), ("repeat", ("sequence", token("c"), token("d")))))
        for text in (("a",), ("a", "b"), ("a", "c", "d"), ("a", "b", "c", "d", "c", "d"), ("a", "a", "b", "a")):
            self.check(grammar, text, True)
        for text in (("b",), ("a", "b", "b"), ("a", "c"), ("a", "d", "c"), ("a", "c", "d", "b"), ("c", "d")):
            self.check(grammar, text, False)

    def test_two_ways_to_read_the_same_token(self):
        grammar = Grammar(("sequence", ("repeat", A), A, ("choice", ("sequence", A, B), ("sequence", A, token("c")))))
        self.check(grammar, ("a", "a", "a", "a", "c"), True)
        self.check(grammar, ("a", "a", "b"), True)
        self.check(grammar, ("a", "b"), False)

    def test_blocks(self):
        self.check(LETS, LIST, True)
        self.check(LETS, ("let", "name", "lpar", "num", "comma", "num", "comma", "num", "rpar"), True)
        for text in (LIST[:-1], ("let", "name", "lpar", "rpar"), ("let", "name", "rpar", "num", "lpar"),
                     ("let", "name", "num"), LIST + ("rpar",), ("lpar", "num", "rpar"), LIST[:3] + LIST[2:]):
            self.check(LETS, text, False)

    def test_blocks_in_one_another(self):
        self.check(NESTS, ("o", "a", "o", "c", "p", "b", "o", "c", "q", "c", "p", "b", "q", "a"), True)
        self.check(NESTS, ("o", "p", "c", "b", "q"), False)
        self.check(NESTS, ("o", "p", "b", "c", "q"), False)
        self.check(NESTS, ("p", "b", "q"), False)

    def test_deep_blocks(self):
        for depth in (1, 39, 40):
            self.check(NESTS, ("o",) * depth + ("a",) + ("c",) * depth, True)
            self.check(NESTS, ("o",) * depth + ("c",) * (depth - 1), False)
            self.check(NESTS, ("o",) * depth + ("c",) * (depth + 1), False)
            turns = ("o", "p", "b") * (depth // 2) + ("q", "c") * (depth // 2)
            self.check(NESTS, turns, True)
            self.check(NESTS, turns + ("c",), False)

    def test_unknown_tokens(self):
        self.check(AB, ("z",), False)
        self.check(AB, ("a", "z", "b"), False)
        self.check(LETS, LIST + ("list",), False)
        unread = Grammar(A, blocks=(("x", "o", "c", B),))
        self.check(unread, ("o", "b", "c"), False)
        self.check(unread, ("b",), False)
        self.check(unread, ("a",), True)

    def test_long_texts_and_changed_ones(self):
        chance = random.Random(7)
        for grammar in (AB, LETS, NESTS):
            text = ()
            while len(text) < 380:
                text += random_valid_text(chance, grammar, 20)
            text = text + random_valid_text(chance, grammar, 1)
            oracle = Oracle(grammar)
            self.check(grammar, text, True)
            for _ in range(25):
                at = chance.randrange(len(text))
                word = chance.choice(grammar.tokens())
                for changed in (text[:at] + text[at + 1:], text[:at] + (word,) + text[at:]):
                    self.check(grammar, changed, oracle.is_valid(changed))
        self.check(AB, ("a", "b") * 200, True)
        self.check(AB, ("a", "b") * 199 + ("a", "a"), False)

    def test_all_short_texts(self):
        for grammar in [AB, NESTS, *random_grammars(40, 4)]:
            limit = 4 if len(grammar.tokens()) > 4 else 6
            valid = valid_texts(grammar, limit)
            turned = mirrored(grammar)
            for text in all_tuples((*grammar.tokens(), "z")[:6], limit):
                if is_valid(grammar, text) is not (text in valid) or is_valid(turned, text[::-1]) is not (text in valid):
                    self.fail((grammar.item, grammar.blocks, text))


class CompletionTest(unittest.TestCase):

    def check_not_prefix(self, grammar, text, place):
        with self.subTest(item=grammar.item, text=text):
            with self.assertRaises(NotPrefix) as caught:
                completion(grammar, text)
            self.assertEqual(caught.exception.place, place)

    def test_valid_texts(self):
        for grammar, text in ((AB, ()), (AB, ("a", "b")), (LETS, LIST * 3), (NESTS, ("o", "c"))):
            self.assertEqual(completion(grammar, text), ())

    def test_beginnings(self):
        self.assertEqual(completion(AB, ("a",)), ("b",))
        self.assertEqual(completion(grammar=AB, text=("a", "b", "a")), ("b",))
        self.assertEqual(completion(LETS, ("let",)), ("name", "lpar", "num", "rpar"))
        self.assertEqual(completion(LETS, LIST[:-1] + ("comma",)), ("num", "rpar"))
        self.assertEqual(completion(NESTS, ("o", "p")), ("b", "q", "c"))

    def test_the_shorter_way(self):
        long_way = ("sequence", B, B, B)
        grammar = Grammar(("sequence", A, ("choice", long_way, block("x"), block("y"))), blocks=(
            ("x", "o", "c", ("choice", ("sequence", A, A), block("y"))), ("y", "p", "q", ("repeat", A))))
        self.assertEqual(completion(grammar, ("a",)), ("p", "q"))
        self.assertEqual(len(completion(grammar, ("a", "o"))), 3)
        self.assertEqual(completion(grammar, ("a", "o", "a")), ("a", "c"))
        self.assertEqual(completion(grammar, ("a", "b")), ("b", "b"))

    def test_a_block_beside_one_token_more_or_fewer(self):
        for inside in range(4):
            blocks = (("x", "o", "c", ("sequence", *[B] * inside) if inside > 1 else [("repeat", B), B][inside]),)
            for count in range(2, 7):
                plain = ("sequence", *[A] * count)
                for parts in ((plain, block("x")), (block("x"), plain)):
                    grammar = Grammar(("sequence", token("k"), ("choice", *parts)), blocks=blocks)
                    self.assertEqual(len(completion(grammar, ("k",))), min(count, inside + 2), (grammar.item, blocks))
                one = Grammar(("sequence", token("k"), ("choice", block("x"), A)), blocks=blocks)
                self.assertEqual(completion(one, ("k",)), ("a",))

    def test_blocks_in_a_block_beside_tokens(self):
        blocks = (("x", "o", "c", ("sequence", block("y"), block("y"))), ("y", "p", "q", ("repeat", A)))
        for count in range(2, 7):
            for parts in ((block("x"), ("sequence", *[A] * count)), (("sequence", *[A] * count), block("x"))):
                grammar = Grammar(("sequence", A, ("choice", *parts), B), blocks=blocks)
                self.assertEqual(len(completion(grammar, ("a",))), 1 + min(6, count), grammar.item)
        seven = ("sequence", ("sequence", A, A, A, A, A), A, A)
        grammar = Grammar(("sequence", A, ("choice", block("x"), seven)), blocks=blocks)
        self.assertEqual(len(completion(grammar, ("a",))), 6)

    def test_blocks_beside_blocks(self):
        inner = ("y", "p", "q", ("sequence", B, B))
        for count in range(2, 7):
            for parts in ((block("x"), block("z")), (block("z"), block("x"))):
                blocks = (("x", "o", "c", block("y")), inner, ("z", "s", "t", ("sequence", *[A] * count)))
                grammar = Grammar(("sequence", A, ("choice", *parts)), blocks=blocks)
                self.assertEqual(len(completion(grammar, ("a",))), min(6, count + 2), grammar.item)

    def test_a_later_part_decides(self):
        grammar = Grammar(("choice", ("sequence", A, A, B, B, B, B), ("sequence", A, B, A)))
        self.assertEqual(completion(grammar, ("a",)), ("b", "a"))
        grammar = Grammar(("sequence", block("x"), ("choice", A, ("sequence", B, B))), blocks=(("x", "o", "c", ("repeat", A)),))
        self.assertEqual(completion(grammar, ("o", "a")), ("c", "a"))

    def test_many_open_blocks(self):
        text = ("o",) * 40
        self.assertEqual(completion(NESTS, text), ("c",) * 40)
        text = ("o", "p", "b") * 20
        self.assertEqual(completion(NESTS, text), ("q", "c") * 20)

    def test_not_prefix(self):
        self.check_not_prefix(AB, ("b",), 0)
        self.check_not_prefix(AB, ("z", "z"), 0)
        self.check_not_prefix(AB, ("a", "b", "a", "a", "z"), 3)
        self.check_not_prefix(AB, ("a", "z"), 1)
        self.check_not_prefix(LETS, ("let", "name", "lpar", "rpar"), 3)
        self.check_not_prefix(LETS, LIST + ("rpar",), 5)
        self.check_not_prefix(NESTS, ("o", "p", "b", "c"), 3)
        self.check_not_prefix(NESTS, ("c",), 0)
        self.check_not_prefix(AB, ("a", "b") * 199 + ("a", "a"), 399)

    def test_blocks_that_never_end(self):
        grammar = Grammar(("choice", A, ("sequence", A, block("x"))), blocks=(("x", "o", "c", block("x")),))
        self.check_not_prefix(grammar, ("a", "o"), 1)
        self.check_not_prefix(Grammar(block("x"), blocks=grammar.blocks), ("o",), 0)
        self.assertEqual(completion(grammar, ("a", "a")), ())

    def test_all_short_texts(self):
        for grammar in [AB, NESTS, *random_grammars(60, 6)]:
            limit = 7
            known = valid_texts(grammar, limit)
            shortest = {}
            for valid in known:
                for at in range(len(valid) + 1):
                    shortest[valid[:at]] = min(len(valid) - at, shortest.get(valid[:at], limit))
            oracle = Oracle(grammar)
            for text in all_tuples((*grammar.tokens(), "z"), 3):
                self.check_text(grammar, text, shortest, oracle, limit)

    def check_text(self, grammar, text, shortest, oracle, limit):
        """Check a completion by the shortest ones of all beginnings of valid texts up to the limit."""
        with self.subTest(item=grammar.item, blocks=grammar.blocks, text=text):
            try:
                found = completion(grammar, text)
            except NotPrefix as error:
                self.assertNotIn(text[:error.place + 1], shortest)
                self.assertTrue(oracle.is_valid(text[:error.place] + completion(grammar, text[:error.place])))
                return
            self.assertTrue(oracle.is_valid(text + found))
            if text in shortest:
                self.assertEqual(len(found), shortest[text])
            else:
                self.assertGreater(len(text + found), limit)

    def test_answers(self):
        text = ("let", "name")
        self.assertIs(type(completion(LETS, text)), tuple)
        self.assertEqual(text, ("let", "name"))


if __name__ == "__main__":
    unittest.main()
