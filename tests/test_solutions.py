"""Point 12: solutions."""

import random
import unittest

from errorspans.errors import NoSolution
from errorspans.grammars import Grammar
from errorspans.solutions import count_solutions, is_solution, solution_at
from errorspans.spans import earliest, error_count, latest
from helpers import AB, LETS, NESTS, ODD_VALUES, bad_windows, block, check_arguments_stay, check_error_for_any_value, \
    check_for_any_value, hits, random_cases, random_text, smallest_choices, token

PLAIN = Grammar(("choice", token("a"), block("x")), blocks=(("x", "o", "c", ("repeat", token("a"))),))
THREE = ("a", "a", "a")


class IsSolutionTest(unittest.TestCase):

    def test_solutions(self):
        for value in ((0, 2), (1, 2), (1, 3)):
            self.assertIs(is_solution(AB, THREE, value), True)
        self.assertIs(is_solution(grammar=AB, text=("b", "a"), value=(0, 2)), True)
        for place in range(401):
            self.assertIs(is_solution(PLAIN, ("o",) + ("a",) * 399, (place,)), True)

    def test_places_that_do_not_hit_all(self):
        for value in ((0, 1), (0, 3), (2, 3)):
            self.assertIs(is_solution(AB, THREE, value), False)
        self.assertIs(is_solution(AB, ("b", "a"), (1, 2)), False)

    def test_more_or_fewer_places(self):
        for value in ((), (0,), (1,), (0, 1, 2), (0, 2, 3), (1, 2, 3), (0, 1, 2, 3)):
            self.assertIs(is_solution(AB, THREE, value), False)

    def test_exchanged_and_doubled(self):
        for value in ((2, 0), (2, 1), (3, 1), (1, 1), (2, 2), (0, 0, 2), (0, 2, 2), (1, 2, 2, 3)):
            self.assertIs(is_solution(AB, THREE, value), False)
        self.assertIs(is_solution(AB, ("a", "b", "b"), (1, 1)), False)

    def test_beyond_the_text(self):
        for value in ((1, 4), (-1, 2), (1, 10 ** 18), (-(10 ** 18), 2), (-2, 2), (-3, 3), (1, -1)):
            self.assertIs(is_solution(AB, THREE, value), False)
        for value in ((-1,), (1,), (2,)):
            self.assertIs(is_solution(AB, ("b",), value), False)

    def test_bools(self):
        for value in ((False, 2), (True, 2), (True, 3), (0, True), True, (True,)):
            self.assertIs(is_solution(AB, THREE, value), False)
        for value in ((True,), (False,), True, False):
            self.assertIs(is_solution(AB, ("a",), value), False)

    def test_other_kinds(self):
        check_for_any_value(self, lambda value: is_solution(AB, THREE, value))
        check_for_any_value(self, lambda value: is_solution(AB, (), value))
        check_for_any_value(self, lambda value: is_solution(AB, THREE, value),
                            [[0, 2], [1, 2], {0: 2}, {1: 1, 2: 2}, ("0", "2"), ((0, 2),), ((0,), (2,)), "02", (0, None)])
        for value in ODD_VALUES:
            if type(value) is not int:
                self.assertIs(is_solution(AB, THREE, (value, 2)), False)
                self.assertIs(is_solution(AB, THREE, (1, value)), False)
                self.assertIs(is_solution(AB, ("a",), (value,)), False)

    def test_text_without_errors(self):
        for grammar, text in ((AB, ()), (AB, ("a", "b")), (NESTS, ("o", "c"))):
            self.assertIs(is_solution(grammar, text, ()), True)
            for value in ([], {}, "", None, 0, False, (0,), (1,), ((),)):
                self.assertIs(is_solution(grammar, text, value), False)

    def test_arguments_stay(self):
        for value in ((0, 2), [0, 2], {"a": [0]}, ([], {})):
            check_arguments_stay(self, is_solution, AB, THREE, value)


class NumbersTest(unittest.TestCase):

    def check_against(self, grammar, text, expected):
        self.assertEqual(count_solutions(grammar, text), len(expected))
        self.assertEqual([solution_at(grammar, text, number) for number in range(len(expected))], expected)
        for number in (-1, len(expected), len(expected) + 1, -len(expected)):
            if number:
                with self.assertRaises(NoSolution) as caught:
                    solution_at(grammar, text, number)
                self.assertEqual(caught.exception.number, number)

    def test_small_texts(self):
        self.check_against(AB, THREE, [(0, 2), (1, 2), (1, 3)])
        self.check_against(AB, ("b", "a"), [(0, 1), (0, 2)])
        self.check_against(AB, ("z",), [(0,)])
        self.check_against(NESTS, ("o", "a"), [(0,), (1,), (2,)])
        self.check_against(NESTS, ("a", "c"), [(0,), (1,)])

    def test_text_without_errors(self):
        for grammar, text in ((AB, ()), (AB, ("a", "b") * 200), (NESTS, ("o", "c"))):
            self.check_against(grammar, text, [()])

    def test_by_names(self):
        self.assertEqual(count_solutions(grammar=AB, text=THREE), 3)
        self.assertEqual(solution_at(grammar=AB, text=THREE, number=2), (1, 3))
        self.assertIs(type(count_solutions(AB, THREE)), int)
        self.assertIs(type(solution_at(AB, THREE, 1)), tuple)

    def test_no_solution_of_that_number(self):
        wrong = [-1, -3, 3, 4, 10 ** 18, -(10 ** 18)]
        check_error_for_any_value(self, lambda value: solution_at(AB, THREE, value), NoSolution, "number", wrong)
        check_error_for_any_value(self, lambda value: solution_at(AB, (), value), NoSolution, "number", [1, -1, 10 ** 18])

    def test_no_number(self):
        others = [value for value in ODD_VALUES if type(value) is not int] + ["0", "1", (0,), [0], {0: 0}, {1: 2}]
        check_error_for_any_value(self, lambda value: solution_at(AB, THREE, value), NoSolution, "number", others)
        check_error_for_any_value(self, lambda value: solution_at(AB, (), value), NoSolution, "number", others)

    def test_as_all_sets_of_places_say(self):
        for grammar, text in random_cases(41, 100, 6, 7):
            with self.subTest(item=grammar.item, blocks=grammar.blocks, text=text):
                expected = smallest_choices(len(text) + 1, bad_windows(grammar, text), hits)
                self.check_against(grammar, text, expected)
                for value in tuples_near(text, expected):
                    self.assertIs(is_solution(grammar, text, value), value in expected, value)

    def test_texts_of_400_tokens(self):
        self.assertEqual(count_solutions(PLAIN, ("o",) + ("a",) * 399), 401)
        self.assertEqual(solution_at(PLAIN, ("o",) + ("a",) * 399, 400), (400,))
        # Each of the 200 errors may lie at two places, at the second one only if all ahead of it do.
        self.assertEqual(count_solutions(AB, ("a",) * 399), 201)
        for number in (0, 1, 2, 77, 199, 200):
            self.assertEqual(solution_at(AB, ("a",) * 399, number),
                             tuple([2 * at + (1 if at < number else 0) for at in range(200)]))
        # Errors apart from one another make as many solutions as products of their places.
        text = ("a", "b", "b", "a", "a", "b") * 66
        self.assertEqual(count_solutions(AB, text), 2 ** error_count(AB, text))
        self.assertEqual(solution_at(AB, text, 0), earliest(AB, text))
        self.assertEqual(solution_at(AB, text, 2 ** error_count(AB, text) - 1), latest(AB, text))

    def test_long_texts(self):
        chance = random.Random(42)
        for grammar in (AB, LETS, NESTS, PLAIN):
            for _ in range(4):
                text = random_text(chance, grammar, 400)
                count = count_solutions(grammar, text)
                numbers = sorted({0, count // 3, count // 2, count - 1, chance.randrange(count)})
                found = [solution_at(grammar, text, number) for number in numbers]
                self.assertEqual(found, sorted(set(found)))
                for value in found:
                    self.assertIs(is_solution(grammar, text, value), True)
                self.assertEqual((found[0][:1], found[-1][:1]), (earliest(grammar, text)[:1], latest(grammar, text)[:1]))
                with self.assertRaises(NoSolution):
                    solution_at(grammar, text, count)

    def test_arguments_stay(self):
        check_arguments_stay(self, count_solutions, NESTS, ("o", "z", "q"))
        check_arguments_stay(self, solution_at, NESTS, ("o", "z", "q"), 0)


def tuples_near(text, solutions):
    """Return solutions and tuples near them."""
    found = set(solutions)
    for solution in solutions[:5]:
        for at in range(len(solution)):
            found.add(solution[:at] + solution[at + 1:])
            found.add(solution[:at] + (solution[at] + 1,) + solution[at + 1:])
            found.add(solution[:at] + (solution[at] - 1,) + solution[at + 1:])
            found.add(solution[:at] + (solution[at],) + solution[at:])
        for place in range(-1, len(text) + 2):
            found.add(tuple(sorted({*solution, place})))
    return sorted(found)


if __name__ == "__main__":
    unittest.main()
