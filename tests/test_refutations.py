"""Point 13, its second paragraph: refutations."""

import copy
import random
import unittest

from errorspans.refutations import refutation, shows_refutation
from errorspans.states import live_states
from errorspans.tokens import END, START
from errorspans.windows import is_good
from helpers import AB, LETS, NESTS, ODD_VALUES, Model, check_arguments_stay, check_for_any_value, random_cases, windows_of

ALL = (("", 0), ("", 1), ("", 2))
# What refutes ("a", "a") by the grammar AB.
ROWS = ((ALL, ()), ((("", 1),), ()))


def owned(owner, *numbers):
    return tuple([(owner, number) for number in numbers])


def slow_shows(grammar, window, rows):
    """Return whether rows of the right form are a refutation, by the steps of the model."""
    at_start = window[:1] == (START,)
    words = window[1:] if at_start else window
    model = Model(grammar, at_start)
    for at, (states, stack) in enumerate(rows):
        if at >= len(words) or not model.states <= set(states) or len(stack) != len(model.stack):
            return False
        for (name, wide), (other, narrow) in zip(stack, model.stack):
            if name != other or not narrow <= set(wide):
                return False
        model.states, model.stack = set(states), [(name, set(wide)) for name, wide in stack]
        went_on = model.step(words[at])
        if went_on == (at == len(rows) - 1):
            return False
    return len(rows) > 0


class RefutationTest(unittest.TestCase):

    def check_bad(self, grammar, window, count):
        """Check the refutation of a bad window, which has so many rows."""
        rows = refutation(grammar, window)
        self.assertIs(type(rows), tuple)
        self.assertEqual(len(rows), count, window)
        self.assertTrue(slow_shows(grammar, window, rows))
        self.assertIs(shows_refutation(grammar, window, rows), True)
        live = live_states(grammar)
        for row in rows:
            self.assertEqual([type(part) for part in (row, *row)], [tuple] * 3)
            for states in (row[0], *[level[1] for level in row[1]]):
                self.assertEqual(states, tuple(sorted(set(states))))
                self.assertTrue(set(states) <= set(live))
                self.assertTrue(all([type(number) is int for _, number in states]))

    def test_good_windows(self):
        for window in ((), (START,), (END,), (START, END), ("b", "a"), (START, "a"), ("b", END), (START, "a", "b", END)):
            self.assertIs(refutation(AB, window), None)
        for window in (("c",) * 40 + ("o",) * 40, (START,) + ("o",) * 40 + ("c",) * 40 + (END,), ("q", "c", "q")):
            self.assertIs(refutation(NESTS, window), None)

    def test_bad_windows(self):
        self.check_bad(AB, ("a", "a"), 2)
        self.check_bad(AB, ("a", "b", "a", "b", "b", "a", "a"), 5)
        self.check_bad(AB, ("b", "a", "z", "b"), 3)

    def test_markers(self):
        self.check_bad(AB, (START, "b"), 1)
        self.check_bad(AB, ("a", END), 2)
        self.check_bad(AB, (START, "a", END), 2)
        self.check_bad(NESTS, (START, "a", "c"), 2)
        self.check_bad(NESTS, (START, "o", "c", "c", END), 3)

    def test_blocks(self):
        self.check_bad(NESTS, ("o", "p", "b", "c"), 4)
        self.check_bad(NESTS, ("o", "q"), 2)
        self.check_bad(NESTS, ("q", "q"), 2)
        self.check_bad(LETS, ("name", "lpar", "num", "rpar", "rpar"), 5)
        self.check_bad(LETS, (START, "let", "name", "lpar", "num", "comma", "rpar"), 6)

    def test_blocks_left_open(self):
        for depth in (1, 2, 39, 40):
            self.check_bad(NESTS, ("o",) * depth + (END,), depth + 1)
            self.check_bad(NESTS, (START,) + ("o",) * depth + ("c",) * (depth - 1) + (END,), 2 * depth)
            self.check_bad(NESTS, ("o",) * depth + ("z",), depth + 1)
        self.assertEqual(len(refutation(NESTS, ("o",) * 40 + (END,))[-1][1]), 40)

    def test_first_element_is_bad(self):
        for window in (("z",), ("z", "a"), (START, "z"), (START, "b", "a"), (START, "z", END)):
            self.check_bad(AB, window, 1)
        self.check_bad(NESTS, (START, "c", "o"), 1)
        self.assertEqual(refutation(AB, ("z",)), ((ALL, ()),))
        self.assertEqual(refutation(AB, (START, "b")), ((owned("", 0), ()),))

    def test_rows_are_those_of_the_scanner(self):
        self.assertEqual(refutation(grammar=AB, window=("a", "a")), ROWS)
        self.assertEqual(refutation(NESTS, (START, "o", "p", "c")), (
            (owned("", 0), ()), (owned("x", 0), (("x", owned("", 2)),)),
            (owned("y", 0), (("x", owned("", 2)), ("y", owned("x", 3))))))

    def test_long_windows(self):
        self.check_bad(AB, (START,) + ("a", "b") * 199 + ("a", "a") + (END,), 400)
        self.check_bad(NESTS, ("o",) * 40 + ("a",) * 320 + ("c",) * 39 + (END,), 400)

    def test_all_windows_of_small_texts(self):
        for grammar, text in random_cases(71, 40, 4, 6):
            for window in windows_of(text).values():
                rows = refutation(grammar, window)
                with self.subTest(item=grammar.item, blocks=grammar.blocks, window=window):
                    self.assertIs(rows is None, is_good(grammar, window))
                    self.assertIs(shows_refutation(grammar, window, rows), rows is not None)
                    if rows is not None:
                        self.assertTrue(slow_shows(grammar, window, rows))

    def test_arguments_stay(self):
        check_arguments_stay(self, refutation, NESTS, ("o", "p", "c"))


class ShowsRefutationTest(unittest.TestCase):

    def check(self, value, expected=False, grammar=AB, window=("a", "a")):
        self.assertIs(shows_refutation(grammar, window, value), expected, value)

    def test_more_states(self):
        # From 0 and 2, a is read; from 1, b is read.
        self.check(((ALL, ()), (owned("", 0, 1), ())))
        self.check(((ALL, ()), (ALL, ())))
        for first in (owned("", 0), owned("", 0, 1), ALL):
            self.check(((first, ()), (owned("", 1), ())), window=(START, "a", "a"), expected=True)
            self.check(((first, ()), (owned("", 0, 1), ())), window=(START, "a", "a"))
        self.check(((owned("", 0, 2), ()),), window=(START, "b"), expected=True)
        self.check(((owned("", 0, 1, 2), ()),), window=(START, "b"))

    def test_more_states_on_the_stack(self):
        window = (START, "o", "q")
        first = (owned("", 0), ())
        for held in (owned("x", 0), owned("x", 0, 1, 2, 3), owned("", 0, 1) + owned("x", 0), live_states(NESTS)):
            for below in (owned("", 2), owned("", 1, 2), owned("", 2) + owned("x", 2), live_states(NESTS)):
                # No state at all helps against the close token of another block.
                self.check((first, (held, (("x", below),))), grammar=NESTS, window=window, expected=True)
        self.check((first, (owned("x", 0), (("x", owned("", 1)),))), grammar=NESTS, window=window)
        self.check((first, (owned("x", 1), (("x", owned("", 2)),))), grammar=NESTS, window=window)

    def test_conditions_that_more_states_do_not_meet(self):
        live = live_states(NESTS)
        # END needs an empty stack, a close token behind START an open block.
        self.check(((live, ()), (live, (("x", live),))), grammar=NESTS, window=("o", END), expected=True)
        self.check(((live, ()),), grammar=NESTS, window=(START, "c"), expected=True)
        self.check(((live, ()), (live, ())), grammar=NESTS, window=(START, "a", "c"), expected=True)
        self.check(((live, ()),), grammar=NESTS, window=("c",), expected=False)

    def test_the_row_ahead_counts(self):
        # The second row must have what the first one as given leads to, not what the scanner has.
        window = (START, "let", "num")
        self.check(((owned("", 0), ()), (owned("", 1), ())), grammar=LETS, window=window, expected=True)
        wide = (owned("", 0) + owned("list", 0), ())
        self.check((wide, (owned("", 1), ())), grammar=LETS, window=window, expected=True)
        self.check((wide, (owned("", 1) + owned("list", 0), ())), grammar=LETS, window=window, expected=False)
        pushed = ("x", owned("", 2))
        twice = ("x", owned("", 2) + owned("x", 2))
        rows = ((owned("", 0) + owned("x", 0), ()), (owned("x", 0), (pushed,)))
        self.check(rows, grammar=NESTS, window=(START, "o", "z"), expected=False)
        rows = (rows[0], (owned("x", 0), (twice,)))
        self.check(rows, grammar=NESTS, window=(START, "o", "z"), expected=True)

    def test_first_row(self):
        self.check(((owned("", 0, 1), ()), ROWS[1]))
        self.check((((), ()), ROWS[1]))
        self.check((owned("", 0), ()))
        self.check(((ALL, (("x", ALL),)), ROWS[1]))
        live = live_states(NESTS)
        self.check(((live, ()),), grammar=NESTS, window=("z",), expected=True)
        self.check(((live, (("x", live),)),), grammar=NESTS, window=("z",))
        self.check(((live[1:], ()),), grammar=NESTS, window=("z",))
        self.check(((live[:-1], ()),), grammar=NESTS, window=("z",))

    def test_too_few_or_too_many_rows(self):
        self.check(())
        self.check(ROWS[:1])
        self.check(ROWS[1:])
        self.check(ROWS + (ROWS[1],))
        self.check(ROWS + (((), ()),))
        self.check(ROWS, window=("a", "a", "b"), expected=True)
        self.check(ROWS + (ROWS[1],), window=("a", "a", "b"))
        self.check(ROWS + (((), ()),), window=("a", "a", "b"))
        self.check(ROWS[:1], window=("a",))
        self.check(ROWS, window=("a",))
        self.check(((ALL, ()),) * 2, window=("z", "z"))
        self.check(((ALL, ()),) * 2, window=("b", END))
        self.check(((ALL, ()),) * 3, window=("b", END))

    def test_start_has_no_row(self):
        rows = refutation(AB, (START, "a", "a"))
        self.assertEqual(len(rows), 2)
        self.check(rows, window=(START, "a", "a"), expected=True)
        self.check((rows[0],) + rows, window=(START, "a", "a"))

    def test_a_state_fewer(self):
        for grammar, window in ((AB, ("a", "a")), (NESTS, ("o", "p", "c")), (NESTS, (START, "o", "o", "q")), (AB, ("a", END))):
            rows = refutation(grammar, window)
            for at, (states, stack) in enumerate(rows):
                for state in states:
                    fewer = tuple([other for other in states if other != state])
                    self.check(rows[:at] + ((fewer, stack),) + rows[at + 1:], grammar=grammar, window=window)
                for level, (name, below) in enumerate(stack):
                    for state in below:
                        less = (name, tuple([other for other in below if other != state]))
                        changed = (states, stack[:level] + (less,) + stack[level + 1:])
                        self.check(rows[:at] + (changed,) + rows[at + 1:], grammar=grammar, window=window)

    def test_other_stacks(self):
        window = (START, "o", "p", "c")
        rows = refutation(NESTS, window)
        lower, upper = rows[2][1]
        self.check(rows, grammar=NESTS, window=window, expected=True)
        others = [("y", lower[1]), ("", lower[1]), ("z", lower[1]), (None, lower[1]), (("x",), lower[1]), (["x"], lower[1])]
        for stack in [(other, upper) for other in others] + [(upper, lower), (lower,), (upper,), (), (lower, upper, upper),
                                                             (lower, lower, upper), [lower, upper], (lower[0], upper),
                                                             (list(lower), upper), (lower + (), upper + ((),)), "xy", None]:
            self.check(rows[:2] + ((rows[2][0], stack),), grammar=NESTS, window=window)

    def test_states_out_of_order(self):
        self.check(((ALL[::-1], ()), ROWS[1]))
        self.check(((ALL + ALL[-1:], ()), ROWS[1]))
        self.check(((ALL[:1] + ALL, ()), ROWS[1]))
        self.check(((ALL, ()), (owned("", 1, 1), ())))
        live = live_states(NESTS)
        below = owned("", 2)
        for other in (below + below, owned("", 3, 2), owned("x", 2) + below):
            self.check(((live, ()), (owned("x", 0), (("x", other),))), grammar=NESTS, window=("o", "z"))
        rows = refutation(NESTS, ("o", "z"))
        self.check((rows[0], (owned("x", 1, 0), rows[1][1])), grammar=NESTS, window=("o", "z"))

    def test_states_that_are_not_live(self):
        for state in (("", 3), ("", -1), ("x", 0), ("", 10 ** 18), ("a", 1), ("", "1"), ("", None), (0, 1), ("",), ("", 1, 2)):
            self.check(((tuple([*ALL, state]), ()), ROWS[1]))
            self.check(((tuple([state, *ALL]), ()), ROWS[1]))
            self.check(((ALL, ()), ((("", 1), state), ())))
            self.check(((ALL, ()), ((state, ("", 1)), ())))
            self.check(((ALL, ()), ((state,), ())))
        window = (START, "o", "q")
        self.check(((owned("", 0), ()), (owned("x", 0), (("x", owned("", 2) + owned("z", 1)),))), grammar=NESTS, window=window)

    def test_bools(self):
        self.check((((("", False), ("", 1), ("", 2)), ()), ROWS[1]))
        self.check((((("", 0), ("", True), ("", 2)), ()), ROWS[1]))
        self.check((ROWS[0], ((("", True),), ())))
        self.check((ROWS[0], (True, ())))
        rows = refutation(NESTS, (START, "o", "z"))
        self.check((rows[0], ((("x", False),), rows[1][1])), grammar=NESTS, window=(START, "o", "z"))
        window = (START, "let", "name", "lpar", "let")
        rows = refutation(LETS, window)
        wide = ("list", owned("", 1, 3))
        self.check(rows[:3] + ((rows[3][0], (wide,)),), grammar=LETS, window=window, expected=True)
        wide = ("list", (("", True), ("", 3)))
        self.check(rows[:3] + ((rows[3][0], (wide,)),), grammar=LETS, window=window)

    def test_lists(self):
        self.check([*ROWS])
        self.check(([*ROWS[0]], ROWS[1]))
        self.check((ROWS[0], [*ROWS[1]]))
        self.check((([*ALL], ()), ROWS[1]))
        self.check(((ALL, []), ROWS[1]))
        self.check(((ALL, ()), ([("", 1)], ())))
        self.check(((ALL, ()), ((["", 1],), ())))
        self.check((((["", 0], ["", 1], ["", 2]), ()), ROWS[1]))
        rows = refutation(NESTS, (START, "o", "z"))
        (name, below), = rows[1][1]
        for level in ([name, below], (name, [*below]), (name, tuple([list(state) for state in below])), ([name], below)):
            self.check((rows[0], (rows[1][0], (level,))), grammar=NESTS, window=(START, "o", "z"))
        self.check((rows[0], (rows[1][0], [(name, below)])), grammar=NESTS, window=(START, "o", "z"))

    def test_rows_of_other_forms(self):
        for row in (ROWS[1] + ((),), ROWS[1][:1], (), (ROWS[1],), (ROWS[1][0], None), (ROWS[1][0], ((),)), (ROWS[1][0], ("x",)),
                    ((), ()), (None, ()), ("", ()), ({}, ()), (("", 1), ())):
            self.check((ROWS[0], row))

    def test_any_value(self):
        for window in (("a", "a"), ("a", "b"), (), ("z",), (START, "b"), (START, "a", END)):
            check_for_any_value(self, lambda value: shows_refutation(AB, window, value))
        for value in ODD_VALUES:
            self.check((value, ROWS[1]))
            self.check((ROWS[0], value))
            for row in ((value, ()), (ROWS[1][0], value), ((value,), ()), (("", 1), value), ((("", 1), value), ()),
                        ((("", value),), ()), (((value, 1),), ()), (ROWS[1][0], (value,)), (ROWS[1][0], (("x", value),)),
                        (ROWS[1][0], ((value, ROWS[1][0]),))):
                # The integer 1 and the string "" make the right row, but True does not.
                self.check((ROWS[0], row), expected=row == ROWS[1] and type(value) in (int, str))

    def test_good_windows(self):
        live = live_states(AB)
        for window in ((), (START,), ("a",), ("a", "b"), ("b", END), (START, "a", "b", END), (START, END)):
            for value in (None, (), ((live, ()),), ((live, ()), (live, ())), ROWS, ((owned("", 0), ()),)):
                self.check(value, window=window)

    def test_near_values_as_the_model_says(self):
        chance = random.Random(72)
        shown = 0
        for grammar, text in random_cases(73, 60, 6, 6):
            for window in chance.sample(list(windows_of(text).values()), 4):
                rows = refutation(grammar, window)
                for _ in range(6 if rows else 0):
                    near = near_rows(chance, grammar, rows)
                    expected = slow_shows(grammar, window, near)
                    shown += expected and near != rows
                    with self.subTest(item=grammar.item, blocks=grammar.blocks, window=window, near=near):
                        self.assertIs(shows_refutation(grammar, window, near), expected)
        self.assertGreater(shown, 100)

    def test_by_names(self):
        self.assertIs(shows_refutation(grammar=AB, window=("a", "a"), value=ROWS), True)
        for value in (ROWS, [*ROWS], {"a": [0]}, ([], {})):
            check_arguments_stay(self, shows_refutation, AB, ("a", "a"), value)


def near_rows(chance, grammar, rows):
    """Return rows of the right form that have some states more or fewer."""
    found = copy.deepcopy([(list(states), [[name, list(below)] for name, below in stack]) for states, stack in rows])
    for _ in range(chance.randint(1, 3)):
        states, stack = chance.choice(found)
        sets = [states] + [level[1] for level in stack]
        held = chance.choice(sets)
        state = chance.choice(live_states(grammar))
        if state not in held:
            held.append(state)
        elif chance.random() < 0.2:
            held.remove(state)
    if chance.random() < 0.05:
        found.pop(chance.randrange(len(found)))
    return tuple([(tuple(sorted(states)), tuple([(name, tuple(sorted(below))) for name, below in stack]))
                  for states, stack in found])


if __name__ == "__main__":
    unittest.main()
