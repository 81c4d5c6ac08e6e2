"""Point 8: states."""

import copy
import unittest

from errorspans.expressions import leaves, may_end, next_leaves
from errorspans.grammars import Grammar
from errorspans.states import can_end, followers, live_states
from helpers import AB, LETS, NESTS, block, random_grammars, token

A, B = token("a"), token("b")
BEGIN = ("", 0)


class Visits:
    """Finds, from point 8 alone, the states that are present in reading valid texts of at most limit tokens."""

    def __init__(self, grammar):
        self.grammar = grammar
        self.known = {}

    def live(self, limit):
        _, seen = self.repeated(self.of_expression("", self.grammar.item, 1, limit), limit)
        return tuple(sorted({state for _, state in seen} | {BEGIN}))

    def of_block(self, name, limit):
        if (name, limit) not in self.known:
            inner = self.grammar.block(name)[3]
            lengths, seen = self.of_expression(name, inner, 1, limit - 2) if limit >= 2 else (set(), set())
            within = {(length + 2, state) for length, state in seen} | {(length + 2, (name, 0)) for length in lengths}
            self.known[(name, limit)] = ({length + 2 for length in lengths}, within)
        return self.known[(name, limit)]

    def of_expression(self, owner, expression, first, limit):
        """Return the lengths of its texts, and (length, state) for each state present in reading one so long."""
        kind = expression[0]
        if kind in ("token", "block"):
            lengths, seen = ({1}, set()) if kind == "token" else self.of_block(expression[1], limit)
            lengths = {length for length in lengths if length <= limit}
            return lengths, seen | {(length, (owner, first)) for length in lengths}
        parts = []
        for part in expression[1:]:
            parts.append(self.of_expression(owner, part, first, limit))
            first += len(leaves(part))
        if kind == "choice":
            return set().union(*[part[0] for part in parts]), set().union(*[part[1] for part in parts])
        if kind == "optional":
            return parts[0][0] | {0}, parts[0][1]
        if kind == "repeat":
            return self.repeated(parts[0], limit)
        found = ({0}, set())
        for part in parts:
            found = self.joined(found, part, limit)
        return found

    def joined(self, left, right, limit):
        lengths = {one + other for one in left[0] for other in right[0] if one + other <= limit}
        seen = {(one + other, state) for one, state in left[1] for other in right[0] if one + other <= limit}
        seen |= {(one + other, state) for one in left[0] for other, state in right[1] if one + other <= limit}
        return lengths, seen

    def repeated(self, part, limit):
        found = ({0}, set())
        while True:
            lengths, seen = self.joined(found, part, limit)
            if lengths <= found[0] and seen <= found[1]:
                return found
            found = (found[0] | lengths, found[1] | seen)


def states_of(owner, *numbers):
    return tuple([(owner, number) for number in numbers])


class LiveStatesTest(unittest.TestCase):

    def test_plain(self):
        self.assertEqual(live_states(AB), states_of("", 0, 1, 2))
        self.assertEqual(live_states(grammar=LETS), states_of("", 0, 1, 2, 3) + states_of("list", 0, 1, 2, 3))
        self.assertEqual(live_states(NESTS),
                         states_of("", 0, 1, 2, 3) + states_of("x", 0, 1, 2, 3) + states_of("y", 0, 1, 2))

    def test_block_that_needs_itself(self):
        for inner in (block("x"), ("sequence", A, block("x")), ("choice", block("x"), ("sequence", block("x"), A))):
            grammar = Grammar(("choice", A, block("x")), blocks=(("x", "o", "c", inner),))
            self.assertEqual(live_states(grammar), states_of("", 0, 1))

    def test_block_that_may_have_itself(self):
        grammar = Grammar(block("x"), blocks=(("x", "o", "c", ("optional", ("sequence", A, block("x")))),))
        self.assertEqual(live_states(grammar), states_of("", 0, 1) + states_of("x", 0, 1, 2))

    def test_blocks_that_need_one_another(self):
        blocks = (("x", "o", "c", ("sequence", A, block("y"))), ("y", "p", "q", ("sequence", block("x"), B)))
        self.assertEqual(live_states(Grammar(("repeat", ("choice", block("x"), block("y"), A)), blocks=blocks)),
                         states_of("", 0, 3))

    def test_way_out_of_blocks_that_have_one_another(self):
        blocks = (("x", "o", "c", ("choice", block("y"), A)), ("y", "p", "q", block("x")))
        self.assertEqual(live_states(Grammar(block("y"), blocks=blocks)),
                         states_of("", 0, 1) + states_of("x", 0, 1, 2) + states_of("y", 0, 1))

    def test_blocks_that_nothing_reads(self):
        blocks = (("x", "o", "c", ("sequence", A, block("y"))), ("y", "p", "q", A), ("z", "s", "t", block("z")))
        self.assertEqual(live_states(Grammar(A, blocks=blocks)), states_of("", 0, 1))
        self.assertEqual(live_states(Grammar(block("y"), blocks=blocks)), states_of("", 0, 1) + states_of("y", 0, 1))

    def test_leaves_beside_a_block_that_never_ends(self):
        endless = (("x", "o", "c", block("x")), ("y", "p", "q", A))
        item = ("choice", ("sequence", A, block("x")), ("sequence", block("x"), B), ("sequence", block("y"), block("x"), A))
        self.assertEqual(live_states(Grammar(item, blocks=endless)), (BEGIN,))
        item = ("sequence", A, ("optional", ("sequence", B, block("x"), B)), ("repeat", ("sequence", block("x"), A)), B)
        self.assertEqual(live_states(Grammar(item, blocks=endless)), states_of("", 0, 1, 7))

    def test_item_that_is_never_read_whole(self):
        grammar = Grammar(("sequence", A, block("x")), blocks=(("x", "o", "c", block("x")),))
        self.assertEqual(live_states(grammar), (BEGIN,))
        self.assertEqual(followers(grammar, BEGIN), ())
        self.assertIs(can_end(grammar, BEGIN), True)

    def test_as_readings_of_texts_say(self):
        for grammar in random_grammars(250, 2):
            with self.subTest(item=grammar.item, blocks=grammar.blocks):
                self.assertEqual(live_states(grammar), Visits(grammar).live(24))


class FollowersTest(unittest.TestCase):

    def test_items_follow_one_another(self):
        self.assertEqual([followers(AB, ("", number)) for number in range(3)],
                         [states_of("", 1), states_of("", 2), states_of("", 1)])
        grammar = Grammar(("sequence", A, ("optional", B)))
        self.assertEqual([followers(grammar, ("", number)) for number in range(3)],
                         [states_of("", 1), states_of("", 1, 2), states_of("", 1)])

    def test_item_that_may_be_empty(self):
        grammar = Grammar(("sequence", ("optional", A), ("optional", B)))
        self.assertEqual([followers(grammar, ("", number)) for number in range(3)], [states_of("", 1, 2)] * 3)

    def test_blocks_do_not_begin_again(self):
        self.assertEqual([followers(grammar=LETS, state=("list", number)) for number in range(4)],
                         [states_of("list", 1), states_of("list", 2), states_of("list", 3), states_of("list", 2)])
        self.assertEqual(followers(NESTS, ("y", 2)), ())

    def test_whole_blocks_are_leaves(self):
        self.assertEqual(followers(LETS, ("", 2)), states_of("", 3))
        self.assertEqual(followers(NESTS, ("", 2)), states_of("", 1, 2, 3))
        self.assertEqual(followers(NESTS, ("x", 0)), states_of("x", 1, 2, 3))

    def test_only_live_ones(self):
        grammar = Grammar(("choice", A, block("x"), ("sequence", B, block("x"))), blocks=(("x", "o", "c", block("x")),))
        self.assertEqual(followers(grammar, BEGIN), states_of("", 1))
        self.assertEqual(followers(grammar, ("", 1)), states_of("", 1))

    def test_all_states_of_many_grammars(self):
        for grammar in random_grammars(150, 3):
            live = live_states(grammar)
            for owner, number in live:
                expression = grammar.item if owner == "" else grammar.block(owner)[3]
                numbers = set(next_leaves(expression, number))
                ends = may_end(expression, number)
                if owner == "" and (ends or number == 0):
                    numbers |= set(next_leaves(expression, 0))
                with self.subTest(item=grammar.item, blocks=grammar.blocks, state=(owner, number)):
                    expected = tuple([(owner, at) for at in sorted(numbers) if (owner, at) in live])
                    self.assertEqual(followers(grammar, (owner, number)), expected)
                    self.assertIs(can_end(grammar, (owner, number)), ends or (owner, number) == BEGIN)


class CanEndTest(unittest.TestCase):

    def test_owner_of_items(self):
        self.assertEqual([can_end(AB, ("", number)) for number in range(3)], [True, False, True])
        self.assertIs(can_end(grammar=LETS, state=BEGIN), True)

    def test_blocks(self):
        self.assertEqual([can_end(LETS, ("list", number)) for number in range(4)], [False, True, False, True])
        self.assertEqual([can_end(NESTS, ("y", number)) for number in range(3)], [False, True, True])
        self.assertIs(can_end(NESTS, ("x", 0)), True)

    def test_grammars_stay_as_they_were(self):
        before = copy.deepcopy((NESTS.item, NESTS.blocks))
        live_states(NESTS), followers(NESTS, BEGIN), can_end(NESTS, BEGIN)
        self.assertEqual((NESTS.item, NESTS.blocks), before)


if __name__ == "__main__":
    unittest.main()
