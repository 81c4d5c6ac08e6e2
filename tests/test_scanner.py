"""Point 10: the scanner."""

import copy
import random
import unittest

from errorspans.grammars import Grammar
from errorspans.scanner import Scanner
from errorspans.states import live_states
from errorspans.tokens import END, START
from helpers import AB, LETS, NESTS, ODD_VALUES, Model, block, random_grammars, token

A, B = token("a"), token("b")


def states_of(owner, *numbers):
    return tuple([(owner, number) for number in numbers])


def fed(grammar, words, at_start=False):
    scanner = Scanner(grammar, at_start=at_start)
    for word in words:
        scanner.feed(word)
    return scanner


class ScannerTest(unittest.TestCase):

    def check(self, scanner, states, depth, expected, alive=True):
        self.assertEqual((scanner.states(), scanner.depth(), scanner.expected()), (states, depth, expected))
        self.assertIs(type(scanner.states()), tuple)
        self.assertIs(scanner.is_alive(), alive)

    def check_failed(self, scanner):
        self.check(scanner, (), 0, (), alive=False)
        for value in [*ODD_VALUES, "a", "b", "o", "c", START, END]:
            self.assertIs(scanner.feed(value), False)
        self.check(scanner, (), 0, (), alive=False)

    def test_at_first(self):
        self.check(Scanner(AB), states_of("", 0, 1, 2), 0, ("$", "a", "b"))
        self.check(Scanner(AB, at_start=False), states_of("", 0, 1, 2), 0, ("$", "a", "b"))
        self.check(Scanner(grammar=AB, at_start=True), states_of("", 0), 0, ("$", "a"))
        self.check(Scanner(LETS), live_states(LETS), 0, ("$", "comma", "let", "lpar", "name", "num", "rpar"))
        self.check(Scanner(LETS, at_start=True), states_of("", 0), 0, ("$", "let"))

    def test_at_start_by_name_only(self):
        with self.assertRaises(TypeError):
            Scanner(AB, True)

    def test_plain_tokens(self):
        scanner = Scanner(AB, at_start=True)
        self.assertIs(scanner.feed("a"), True)
        self.check(scanner, states_of("", 1), 0, ("b",))
        self.assertIs(scanner.feed(value="b"), True)
        self.check(scanner, states_of("", 2), 0, ("$", "a"))
        self.assertIs(scanner.feed("b"), False)
        self.check_failed(scanner)

    def test_plain_token_from_several_states(self):
        grammar = Grammar(("sequence", A, A, ("optional", A), B))
        scanner = Scanner(grammar)
        self.assertIs(scanner.feed("a"), True)
        self.check(scanner, states_of("", 1, 2, 3), 0, ("a", "b"))
        scanner.feed("a")
        self.check(scanner, states_of("", 2, 3), 0, ("a", "b"))
        scanner.feed("a")
        self.check(scanner, states_of("", 3), 0, ("b",))

    def test_plain_token_in_several_owners(self):
        scanner = Scanner(NESTS)
        scanner.feed("a")
        self.check(scanner, (("", 1), ("x", 1)), 0, ("$", "a", "c", "o", "p"))
        scanner.feed("p")
        self.check(scanner, states_of("y", 0), 1, ("b",))

    def test_unknown_and_unread_tokens(self):
        grammar = Grammar(A, blocks=(("x", "o", "c", B),))
        for word in ("z", "b", "o", "c", "x"):
            for at_start in (False, True):
                scanner = Scanner(grammar, at_start=at_start)
                self.assertEqual(scanner.expected(), ("$", "a"))
                self.assertIs(scanner.feed(word), False)
                self.check_failed(scanner)

    def test_open_token_pushes(self):
        scanner = fed(LETS, ("let", "name"), at_start=True)
        self.assertIs(scanner.feed("lpar"), True)
        self.check(scanner, states_of("list", 0), 1, ("num",))
        self.assertIs(scanner.feed("num"), True)
        self.check(scanner, states_of("list", 1), 1, ("comma", "rpar"))
        self.assertIs(scanner.feed("rpar"), True)
        self.check(scanner, states_of("", 3), 0, ("$", "let"))

    def test_open_token_fails_without_followers(self):
        scanner = fed(LETS, ("let",))
        self.assertIs(scanner.feed("lpar"), False)
        self.check_failed(scanner)

    def test_close_token_pops_what_was_pushed(self):
        grammar = Grammar(("choice", ("sequence", A, block("x"), A), ("sequence", B, block("x"), B)),
                          blocks=(("x", "o", "c", ("repeat", A)),))
        self.check(fed(grammar, ("a", "o", "a", "c")), states_of("", 2), 0, ("a",))
        self.check(fed(grammar, ("b", "o", "c")), states_of("", 5), 0, ("b",))
        self.check(fed(grammar, ("o", "a", "c")), states_of("", 2, 5), 0, ("a", "b"))
        self.check(fed(grammar, ("a", "c")), states_of("", 2, 5), 0, ("a", "b"))

    def test_close_token_needs_a_state_that_can_end(self):
        for words in (("lpar",), ("lpar", "num", "comma"), ("comma",), ("name",)):
            scanner = fed(LETS, words)
            self.assertIs(scanner.is_alive(), True)
            self.assertNotIn("rpar", scanner.expected())
            self.assertIs(scanner.feed("rpar"), False)
            self.check_failed(scanner)

    def test_close_token_of_another_block(self):
        scanner = fed(NESTS, ("o", "p", "b"))
        self.assertIs(scanner.feed("c"), False)
        self.check_failed(scanner)
        scanner = fed(NESTS, ("o", "a"))
        self.assertIs(scanner.feed("q"), False)
        self.check_failed(scanner)

    def test_close_tokens_below_the_stack(self):
        self.check(fed(LETS, ("rpar",)), states_of("", 3), 0, ("$", "let"))
        self.check(fed(NESTS, ("c",)), (("", 2), ("x", 2), ("y", 2)), 0, ("$", "a", "c", "o", "p", "q"))
        self.check(fed(NESTS, ("c", "q")), (("", 3), ("x", 3)), 0, ("$", "a", "c", "o", "p"))
        self.check(fed(NESTS, ("q", "b")), (), 0, (), alive=False)
        self.assertIs(fed(NESTS, ("c",) * 40).is_alive(), True)
        self.assertIs(fed(LETS, ("rpar", "rpar")).is_alive(), False)

    def test_close_token_without_a_stack_at_the_start(self):
        for words in ((), ("a",), ("o", "c")):
            scanner = fed(NESTS, words, at_start=True)
            self.assertIs(scanner.is_alive(), True)
            self.assertIs(scanner.feed("c"), False)
            self.check_failed(scanner)

    def test_dead_leaves_are_not_among_the_states_behind_a_close_token(self):
        item = ("choice", ("sequence", A, block("x")), ("sequence", block("x"), block("y")))
        grammar = Grammar(item, blocks=(("x", "o", "c", A), ("y", "p", "q", block("y"))))
        self.check(fed(grammar, ("c",)), states_of("", 2), 0, ("$", "a"))

    def test_end(self):
        scanner = fed(AB, ("a", "b"), at_start=True)
        self.assertIs(scanner.feed(END), True)
        self.check(scanner, states_of("", 2), 0, ())
        for value in ("a", END, START, None):
            late = scanner.clone()
            self.assertIs(late.feed(value), False)
            self.check_failed(late)

    def test_the_set_stays_behind_end(self):
        scanner = Scanner(NESTS)
        self.assertIs(scanner.feed(END), True)
        self.check(scanner, live_states(NESTS), 0, ())
        scanner = fed(NESTS, ("a", END))
        self.check(scanner, (("", 1), ("x", 1)), 0, ())

    def test_end_at_the_start(self):
        self.check(fed(AB, (END,), at_start=True), states_of("", 0), 0, ())

    def test_end_fails(self):
        for grammar, words in ((AB, ("a",)), (LETS, ("lpar", "num")), (LETS, ("num",)), (NESTS, ("o",)), (NESTS, ("b",))):
            for at_start in (False, True):
                if at_start and not fed(grammar, words, at_start=True).is_alive():
                    continue
                scanner = fed(grammar, words, at_start=at_start)
                self.assertIs(scanner.is_alive(), True)
                self.assertNotIn(END, scanner.expected())
                self.assertIs(scanner.feed(END), False)
                self.check_failed(scanner)

    def test_end_needs_an_empty_stack(self):
        grammar = Grammar(("sequence", block("x"), ("optional", A)), blocks=(("x", "o", "c", ("optional", A)),))
        for at_start in (False, True):
            scanner = fed(grammar, ("o",), at_start=at_start)
            self.assertIs(scanner.feed(END), False)
            self.check_failed(scanner)

    def test_any_value(self):
        for at_start in (False, True):
            for words in ((), ("a",), ("a", "b"), ("a", "b", END)):
                for value in [*ODD_VALUES, START, "ab", ("a",), ["a"], {"a": "b"}, "x"]:
                    scanner = fed(AB, words, at_start)
                    self.assertIs(scanner.is_alive(), True)
                    before = copy.deepcopy(value)
                    self.assertIs(scanner.feed(value), False)
                    self.assertEqual(value, before)
                    self.check(scanner, (), 0, (), alive=False)

    def test_deep_stack(self):
        scanner = Scanner(NESTS, at_start=True)
        for depth in range(1, 41):
            self.assertIs(scanner.feed("o"), True)
            self.check(scanner, states_of("x", 0), depth, ("a", "c", "o", "p"))
        for depth in range(39, 0, -1):
            self.assertIs(scanner.feed("c"), True)
            self.check(scanner, states_of("x", 2), depth, ("a", "c", "o", "p"))
        self.assertIs(scanner.feed("c"), True)
        self.check(scanner, states_of("", 2), 0, ("$", "a", "o", "p"))

    def test_asking_changes_nothing(self):
        scanner = fed(NESTS, ("o", "a"))
        for _ in range(2):
            self.check(scanner, states_of("x", 1), 1, ("a", "c", "o", "p"))

    def test_as_the_model_says(self):
        chance = random.Random(8)
        for grammar in [AB, LETS, NESTS, *random_grammars(150, 9)]:
            for at_start in (False, True):
                for _ in range(6):
                    self.walk(chance, grammar, at_start)

    def walk(self, chance, grammar, at_start):
        """Take steps that mostly go on, by a scanner and by the model."""
        scanner, model = Scanner(grammar, at_start=at_start), Model(grammar, at_start)
        words = []
        for _ in range(12):
            going_on = [word for word in (END, *grammar.tokens(), "z") if copy.deepcopy(model).step(word)]
            with self.subTest(item=grammar.item, blocks=grammar.blocks, at_start=at_start, words=words):
                self.assertEqual(scanner.expected(), tuple(sorted(going_on)))
            plain = [word for word in going_on if word != END]
            word = chance.choice(plain) if plain and chance.random() < 0.9 else chance.choice((END, *grammar.tokens(), "z"))
            words.append(word)
            with self.subTest(item=grammar.item, blocks=grammar.blocks, at_start=at_start, words=words):
                went_on = model.step(word)
                self.assertIs(scanner.feed(word), went_on)
                states = tuple(sorted(model.states)) if went_on else ()
                self.assertEqual((scanner.states(), scanner.depth()), (states, len(model.stack) if went_on else 0))
            if not went_on:
                return


class CloneTest(unittest.TestCase):

    def facts(self, scanner):
        return (scanner.is_alive(), scanner.states(), scanner.depth(), scanner.expected())

    def test_clones_are_in_the_same_state(self):
        for words in ((), ("o",), ("o", "p", "b"), ("a", END), ("z",), ("o", "o", "q")):
            for at_start in (False, True):
                scanner = fed(NESTS, words, at_start)
                twin = scanner.clone()
                self.assertIsInstance(twin, Scanner)
                self.assertIsNot(twin, scanner)
                self.assertEqual(self.facts(twin), self.facts(scanner))

    def test_clones_go_on_apart(self):
        scanner = fed(NESTS, ("o", "o", "a"), at_start=True)
        before = self.facts(scanner)
        twin = scanner.clone()
        for word in ("c", "c", END):
            self.assertIs(twin.feed(word), True)
        self.assertEqual(self.facts(scanner), before)
        held = self.facts(twin)
        self.assertIs(scanner.feed("p"), True)
        self.assertEqual(scanner.depth(), 3)
        self.assertEqual(self.facts(twin), held)
        self.assertIs(scanner.feed("z"), False)
        self.assertIs(twin.is_alive(), True)

    def test_a_clone_keeps_whether_it_began_at_the_start(self):
        self.assertIs(Scanner(NESTS, at_start=True).clone().feed("c"), False)
        self.assertIs(Scanner(NESTS).clone().feed("c"), True)

    def test_failed_clones(self):
        scanner = fed(AB, ("a", "a"))
        twin = scanner.clone()
        self.assertIs(twin.feed("b"), False)
        self.assertEqual(self.facts(twin), (False, (), 0, ()))
        living = fed(AB, ("a",))
        twin = living.clone()
        twin.feed("a")
        self.assertIs(living.feed("b"), True)
        self.assertIs(twin.is_alive(), False)


if __name__ == "__main__":
    unittest.main()
