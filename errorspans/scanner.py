"""The scanner, which reads a window from left to right."""

from errorspans.rules import BEGIN
from errorspans.tokens import END, is_token


class Scanner:
    """Holds the set of the states that are possible now, and a stack of (block name, set) for the open blocks.

    The set is an ascending tuple. It is empty behind a failed step and only there.
    """

    def __init__(self, grammar, *, at_start=False):
        self.grammar = grammar
        self.at_start = at_start
        self.held = (BEGIN,) if at_start else grammar.rules.live
        self.stack = []
        self.ended = False

    def feed(self, value):
        """Take a step with any value; return whether it did not fail."""
        found = self.states_by(value)
        if not found:
            self.held = ()
            self.stack = []
            return False
        rules = self.grammar.rules
        if value == END:
            self.ended = True
        elif value in rules.opened:
            self.stack.append((rules.opened[value], found))
            self.held = ((rules.opened[value], 0),)
        else:
            if value in rules.closed and self.stack:
                self.stack.pop()
            self.held = found
        return True

    def is_alive(self):
        """Return whether no step failed."""
        return len(self.held) > 0

    def states(self):
        """Return the ascending tuple of the set, () behind a failed step."""
        return self.held

    def depth(self):
        """Return the height of the stack, 0 behind a failed step."""
        return len(self.stack)

    def expected(self):
        """Return the ascending tuple of the tokens and END with which a step would not fail."""
        # END, by its sign, comes ahead of all tokens.
        words = (END,) + self.grammar.tokens()
        return tuple([word for word in words if self.states_by(word)])

    def clone(self):
        """Return another scanner in the same state."""
        twin = Scanner(self.grammar, at_start=self.at_start)
        twin.held = self.held
        twin.stack = list(self.stack)
        twin.ended = self.ended
        return twin

    def go_on_from(self, states, stack):
        """Take this set and this stack, a sequence of (block name, set), for the present ones."""
        self.held = states
        self.stack = list(stack)

    def is_like(self, other):
        """Return whether another scanner of the same grammar goes on just as this one."""
        if (self.at_start, self.ended) != (other.at_start, other.ended):
            return False
        return self.held == other.held and self.stack == other.stack

    def states_by(self, value):
        """Return the states that a step leads to, () if it fails; for an open token, those behind the whole block."""
        rules = self.grammar.rules
        if self.ended:
            return ()
        if value == END:
            return self.held if not self.stack and self.can_leave("") else ()
        if not is_token(value):
            return ()
        if value in rules.opened:
            return self.followers_by(("block", rules.opened[value]))
        if value in rules.closed:
            return self.states_by_closing(rules.closed[value])
        return self.followers_by(("token", value))

    def states_by_closing(self, name):
        """Return the states behind the block of that name that is closed now, () if it cannot be closed."""
        if not self.can_leave(name):
            return ()
        if self.stack:
            last, surrounding = self.stack[-1]
            return surrounding if last == name else ()
        return () if self.at_start else self.grammar.rules.behind_block(name)

    def followers_by(self, leaf):
        """Return the followers of the set by that leaf."""
        rules = self.grammar.rules
        found = [at for state in self.held for at in rules.followers[state] if rules.leaf_at[at] == leaf]
        return tuple(sorted(set(found)))

    def can_leave(self, owner):
        """Return whether some state of the set is of that owner and can end."""
        return any([state[0] == owner and self.grammar.rules.ending[state] for state in self.held])
