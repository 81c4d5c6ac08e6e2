"""Point 14: repairs."""

import itertools
import random
import unittest

from errorspans.grammars import Grammar
from errorspans.repairs import apply_repair, is_repair, repair, repair_at
from errorspans.solutions import count_solutions, solution_at
from errorspans.spans import earliest, error_count, latest
from helpers import AB, LETS, NESTS, ODD_VALUES, Oracle, bad_windows, block, check_arguments_stay, check_for_any_value, \
    hits, random_cases, random_text, random_valid_text, token

NEVER = Grammar(("sequence", token("a"), block("x")), blocks=(("x", "o", "c", block("x")),))
FAULTY = ("a", "a", "b")


class ApplyRepairTest(unittest.TestCase):

    def test_places(self):
        text = ("a", "b", "c")
        self.assertEqual(apply_repair(text, ((0, ("x",)),)), ("x", "b", "c"))
        self.assertEqual(apply_repair(text, ((1, ("x",)),)), ("a", "x", "c"))
        self.assertEqual(apply_repair(text, ((2, ("x",)),)), ("a", "b", "x"))
        self.assertEqual(apply_repair(text, ((3, ("x",)),)), ("a", "b", "c", "x"))

    def test_several_places(self):
        text = ("a", "b", "c", "d")
        self.assertEqual(apply_repair(text, ((0, ("x",)), (1, ("y",)), (3, ("z",)))), ("x", "y", "c", "z"))
        self.assertEqual(apply_repair(text, ((1, ()), (2, ("x", "y")), (4, ("z",)))), ("a", "x", "y", "d", "z"))
        self.assertEqual(apply_repair(text, ((3, ("x",)), (4, ("y", "z")))), ("a", "b", "c", "x", "y", "z"))

    def test_no_tokens_and_several(self):
        text = ("a", "b", "c")
        for place in range(3):
            self.assertEqual(apply_repair(text, ((place, ()),)), text[:place] + text[place + 1:])
            self.assertEqual(apply_repair(text, ((place, ("x", "y", "z")),)), text[:place] + ("x", "y", "z") + text[place + 1:])
        self.assertEqual(apply_repair(text, ((3, ()),)), text)
        self.assertEqual(apply_repair(text, tuple([(place, ()) for place in range(4)])), ())

    def test_no_changes(self):
        for text in ((), ("a",), ("a", "b") * 200):
            self.assertEqual(apply_repair(text, ()), text)

    def test_empty_text(self):
        self.assertEqual(apply_repair((), ((0, ("a", "b")),)), ("a", "b"))
        self.assertEqual(apply_repair((), ((0, ()),)), ())

    def test_by_names(self):
        found = apply_repair(text=FAULTY, changes=((1, ("b", "a")),))
        self.assertEqual(found, ("a", "b", "a", "b"))
        self.assertIs(type(found), tuple)
        check_arguments_stay(self, apply_repair, FAULTY, ((1, ("b", "a")),))

    def test_text_of_400_tokens(self):
        text = ("a",) * 400
        self.assertEqual(apply_repair(text, tuple([(place, ("b",)) for place in range(401)])), ("b",) * 401)
        self.assertEqual(apply_repair(text, tuple([(place, ("x", "y")) for place in range(0, 401, 2)])),
                         ("x", "y", "a") * 200 + ("x", "y"))


class IsRepairTest(unittest.TestCase):

    def check(self, value, expected=False, text=FAULTY):
        self.assertIs(is_repair(AB, text, value), expected, value)

    def test_repairs(self):
        for value in (((0, ()),), ((1, ()),), ((0, ("a", "b")),), ((1, ("b", "a")),), ((0, ("a",)), (1, ("b", "a")))):
            self.check(value, True)
        self.check(((0, ()), (1, ()), (2, ())), True)
        self.check(((0, ()), (3, ("a", "b"))), True)
        self.check(((2, ("a", "b")),), True, text=("a", "b"))
        self.check((), True, text=("a", "b"))
        self.check((), True, text=())
        self.check(((0, ()),), True, text=())
        self.check(((1, ("b",)), (2, ())), True, text=("a", "b"))
        self.assertIs(is_repair(grammar=AB, text=FAULTY, value=((0, ()),)), True)

    def test_changes_that_do_not_make_it_valid(self):
        for value in ((), ((0, ("a",)),), ((1, ("b",)),), ((2, ()),), ((3, ("a", "b")),), ((1, ("z",)),), ((3, ()),)):
            self.check(value)
        self.check(((0, ()),), text=("a", "b"))

    def test_places_out_of_order(self):
        self.check(((0, ()), (2, ("b",))), True)
        self.check(((2, ("b",)), (0, ())))
        self.check(((0, ()), (2, ("b",)), (1, ("a",))))

    def test_places_doubled(self):
        self.check(((0, ()), (0, ())))
        self.check(((0, ()), (2, ("b",)), (2, ("b",))))
        self.check(((2, ()), (2, ("a", "b"))), text=("a", "b"))
        self.check(((0, ()), (0, ("a", "b"))), text=())

    def test_places_beyond_the_text(self):
        for place in (3, 4, 10 ** 18, -1, -3, -(10 ** 18)):
            self.check(((0, ()), (place, ())), place == 3)
            self.check(((place, ()), (0, ())))
            self.check(((place, ("a", "b")),), text=("a", "b"))
        self.check(((1, ()),), text=())
        self.check(((-1, ()),), text=())

    def test_bools(self):
        self.check(((False, ()),))
        self.check(((True, ()),))
        self.check(((0, ()), (True, ("a",))))
        self.check(((0, ()), (1, ("a",))), True)

    def test_tokens_that_are_no_text(self):
        for tokens in (None, "", "b", [], ["a", "b"], {}, ("A",), ("^",), ("a", "$"), (("a", "b"),), ("",), 0, False, ("a", 1)):
            self.check(((0, tokens),))
            self.check(((0, ()), (3, tokens)))

    def test_other_kinds(self):
        check_for_any_value(self, lambda value: is_repair(AB, FAULTY, value))
        check_for_any_value(self, lambda value: is_repair(AB, ("a", "b"), value))
        check_for_any_value(self, lambda value: is_repair(AB, FAULTY, value),
                            [[(0, ())], ([0, ()],), ((0, []),), ((0,),), ((0, (), ()),), (0, ()), {0: ()}, {(0, ()): 1},
                             (("0", ()),), ((None, ()),), (((0,), ()),), ((0, ()), None), ((0, ()), ())])
        for value in ODD_VALUES:
            self.check((value,))
            self.check(((0, ()), value))
            self.check(((0, value),))
            self.check(((value, ()),), expected=type(value) is int and value in (0, 1))
        for value in ([], {}, "", None, 0, False, ((),)):
            self.check(value, text=("a", "b"))

    def test_arguments_stay(self):
        for value in (((0, ()),), [(0, ())], {"a": [0]}, ([], {})):
            check_arguments_stay(self, is_repair, AB, FAULTY, value)


class RepairTest(unittest.TestCase):

    def check_changes(self, grammar, text, changes, places):
        """Check that changes are a repair at just these places that makes the text valid."""
        self.assertIs(type(changes), tuple)
        self.assertEqual(tuple([place for place, _ in changes]), tuple(places))
        self.assertTrue(Oracle(grammar).is_valid(apply_repair(text, changes)))
        self.assertIs(is_repair(grammar, text, changes), True)
        for change in changes:
            self.assertEqual((type(change), len(change), type(change[0]), type(change[1])), (tuple, 2, int, tuple))

    def check_repair(self, grammar, text):
        found = repair(grammar, text)
        self.assertEqual(len(found), error_count(grammar, text))
        self.check_changes(grammar, text, found, [place for place, _ in found])

    def test_valid_texts(self):
        for grammar, text in ((AB, ()), (AB, ("a", "b") * 200), (NESTS, ("o",) * 40 + ("c",) * 40), (NEVER, ())):
            self.assertEqual(repair(grammar, text), ())
            self.assertEqual(repair_at(grammar, text, ()), ())

    def test_small_texts(self):
        for text in (("a",), ("b",), ("b", "a"), ("a", "a", "a"), ("z",), ("a", "z", "b"), ("b", "b", "b", "a", "a")):
            self.check_repair(AB, text)
        for text in (("o",) * 40, ("c",) * 40, ("o", "p", "b", "c", "q"), ("p", "o", "c"), ("q", "p"), ("z", "o", "z", "q")):
            self.check_repair(NESTS, text)
        for text in (("let",), ("rpar", "lpar"), ("num", "comma"), ("let", "name", "lpar", "rpar", "let")):
            self.check_repair(LETS, text)
        self.assertEqual(repair(NEVER, ("a", "o", "z")), ((0, ()), (1, ()), (2, ())))
        self.check_repair(grammar=AB, text=("a", "a"))

    def test_many_texts(self):
        for grammar, text in random_cases(81, 100, 6, 10):
            with self.subTest(item=grammar.item, blocks=grammar.blocks, text=text):
                self.check_repair(grammar, text)

    def test_texts_of_400_tokens(self):
        chance = random.Random(82)
        for grammar in (AB, LETS, NESTS):
            self.check_repair(grammar, tuple([chance.choice(grammar.tokens()) for _ in range(400)]))
            self.check_repair(grammar, random_text(chance, grammar, 400))
            self.check_repair(grammar, random_valid_text(chance, grammar, 400)[3:400])

    def test_repair_at_solutions(self):
        for grammar, text in random_cases(83, 60, 4, 7):
            for number in range(min(count_solutions(grammar, text), 8)):
                places = solution_at(grammar, text, number)
                with self.subTest(item=grammar.item, blocks=grammar.blocks, text=text, places=places):
                    self.check_changes(grammar, text, repair_at(grammar, text, places), places)

    def test_repair_at_all_sets_of_places(self):
        for grammar, text in random_cases(84, 40, 3, 5):
            bad = bad_windows(grammar, text)
            for many in range(len(text) + 2):
                for places in itertools.combinations(range(len(text) + 1), many):
                    found = repair_at(grammar, text, places)
                    with self.subTest(item=grammar.item, blocks=grammar.blocks, text=text, places=places):
                        if all([any([hits(place, window) for place in places]) for window in bad]):
                            self.check_changes(grammar, text, found, places)
                        else:
                            self.assertIs(found, None)

    def test_repair_at_other_places(self):
        text = ("a", "a", "a")
        for places in ((), (0,), (1,), (3,), (0, 1), (0, 3), (2, 3)):
            self.assertIs(repair_at(AB, text, places), None)
        for places in ((0, 2), (1, 3), (0, 1, 2), (1, 2, 3), (0, 1, 2, 3)):
            self.check_changes(AB, text, repair_at(AB, text, places), places)
        for places in ((), (0,), (2,), (0, 1), (0, 1, 2)):
            self.check_changes(AB, ("a", "b"), repair_at(grammar=AB, text=("a", "b"), places=places), places)

    def test_repair_at_empty_text(self):
        self.check_changes(AB, (), repair_at(AB, (), ()), ())
        self.check_changes(AB, (), repair_at(AB, (), (0,)), (0,))
        self.check_changes(NESTS, (), repair_at(NESTS, (), (0,)), (0,))

    def test_repair_at_places_of_long_texts(self):
        chance = random.Random(85)
        for grammar in (AB, LETS, NESTS):
            text = tuple([chance.choice(grammar.tokens()) for _ in range(400)])
            for places in (tuple(range(401)), latest(grammar, text), earliest(grammar, text), tuple(range(400))):
                found = repair_at(grammar, text, places)
                if found is not None:
                    self.check_changes(grammar, text, found, places)
            self.assertIsNotNone(repair_at(grammar, text, tuple(range(401))))
            self.assertIs(repair_at(grammar, text, ()), None)
        deep = ("o",) * 40 + ("a",) * 320 + ("c",) * 39
        for places in ((0,), (40,), (200,), (399,), (5, 250, 399)):
            self.check_changes(NESTS, deep, repair_at(NESTS, deep, places), places)

    def test_arguments_stay(self):
        check_arguments_stay(self, repair, NESTS, ("o", "z", "q"))
        check_arguments_stay(self, repair_at, NESTS, ("o", "z", "q"), (0, 1, 2))


if __name__ == "__main__":
    unittest.main()
