"""Two grammars with the same open and close tokens, read side by side.

A node is (level, states by the one grammar, states by the other) to which the same words lead. The level is the name of
the block that was opened last, FREE or START outside of blocks that were opened: FREE for windows that begin anywhere,
START for windows with START.
"""

from errorspans.rules import BEGIN
from errorspans.tokens import END, START

FREE = ""
# The node behind words that just one of the grammars reads.
GOAL = ()


class Side:
    """How one grammar goes on from sets of states; known keeps the answers, since the same sets come again."""

    def __init__(self, rules):
        self.rules = rules
        self.known = {}

    def sets_behind(self, states):
        """Return a dict of the sets of states that reading one leaf leads to, by leaf."""
        if states not in self.known:
            found = {}
            for state in states:
                for follower in self.rules.followers[state]:
                    found.setdefault(self.rules.leaf_at[follower], []).append(follower)
            self.known[states] = {leaf: tuple(sorted(set(found[leaf]))) for leaf in found}
        return self.known[states]

    def can_leave(self, states, owner):
        """Return whether one of the states is of that owner and can end."""
        return any([state[0] == owner and self.rules.ending[state] for state in states])


class Search:
    """The nodes that were found, the nearest ones first.

    came: by node, how many words lead to it, the node ahead of it (None for a first one) and the words between.
    waiting: by number of words, the nodes that were not taken yet.
    """

    def __init__(self):
        self.came = {}
        self.waiting = {}

    def offer(self, node, ahead, words):
        """Note a node that these words lead to from the node ahead, unless it is known to be as near."""
        far = len(words) + (0 if ahead is None else self.came[ahead][0])
        if node not in self.came or far < self.came[node][0]:
            self.came[node] = (far, ahead, words)
            self.waiting.setdefault(far, []).append(node)

    def take_nearest(self):
        """Return a nearest node that was not taken yet, None if there is none."""
        while self.waiting:
            far = min(list(self.waiting))
            nodes = self.waiting[far]
            node = nodes.pop()
            if not nodes:
                del self.waiting[far]
            # A node may wait a second time where it was found farther away before.
            if self.came[node][0] == far:
                return node
        return None

    def words_to(self, node):
        """Return the tuple of the words that lead to a node."""
        parts = []
        while node is not None:
            far, node, words = self.came[node]
            parts.append(words)
        return tuple([word for words in parts[::-1] for word in words])


class Pair:
    """The two grammars; whole has, by name, a shortest whole block of that name that both of them read."""

    def __init__(self, one, other):
        self.one = Side(one.rules)
        self.other = Side(other.rules)
        self.brackets = one.rules.brackets
        self.whole = {}
        while self.shorten_blocks():
            pass

    def shorten_blocks(self):
        """Go through the blocks once and take each shorter whole one; return whether there was one."""
        changed = False
        for name in self.brackets:
            words = self.shortest_inner(name)
            if words is not None and (name not in self.whole or len(words) + 2 < len(self.whole[name])):
                first, last = self.brackets[name]
                self.whole[name] = (first,) + words + (last,)
                changed = True
        return changed

    def shortest_inner(self, name):
        """Return a shortest text of the block that both grammars read, by the whole blocks known, None without one."""
        if not self.is_live_in_both(name):
            return None
        search = Search()
        search.offer(node_behind_open(name), None, ())
        node = search.take_nearest()
        while node is not None and not self.can_both_leave(node, name):
            for words, target in self.steps_on(node):
                search.offer(target, node, words)
            node = search.take_nearest()
        return None if node is None else search.words_to(node)

    def shortest_unlike(self):
        """Return a shortest window that just one of the grammars reads, None if there is none."""
        search = Search()
        search.offer((FREE, self.one.rules.live, self.other.rules.live), None, ())
        search.offer((START, (BEGIN,), (BEGIN,)), None, (START,))
        node = search.take_nearest()
        while node is not None and node != GOAL:
            for words, target in self.steps_on(node) + self.steps_into(node):
                search.offer(target, node, words)
            for word in self.unlike_words(node):
                search.offer(GOAL, node, (word,))
            node = search.take_nearest()
        return None if node is None else search.words_to(GOAL)

    def is_live_in_both(self, name):
        """Return whether both grammars read that block somewhere."""
        return (name, 0) in self.one.rules.followers and (name, 0) in self.other.rules.followers

    def can_both_leave(self, node, owner):
        """Return whether both grammars can leave the owner there."""
        level, left, right = node
        return self.one.can_leave(left, owner) and self.other.can_leave(right, owner)

    def steps_on(self, node):
        """Return the list of (words, next node) of the same level: tokens, whole blocks, and ends of earlier blocks."""
        level, left, right = node
        ahead = self.one.sets_behind(left)
        beside = self.other.sets_behind(right)
        found = []
        for leaf in ahead:
            kind, name = leaf
            if leaf in beside and (kind == "token" or name in self.whole):
                words = (name,) if kind == "token" else self.whole[name]
                found.append((words, (level, ahead[leaf], beside[leaf])))
        if level == FREE:
            for name in self.brackets:
                if self.can_both_leave(node, name):
                    target = (FREE, self.one.rules.behind_block(name), self.other.rules.behind_block(name))
                    found.append(((self.brackets[name][1],), target))
        return found

    def steps_into(self, node):
        """Return the list of (words, next node) that open a block which is not closed again."""
        level, left, right = node
        beside = self.other.sets_behind(right)
        names = [leaf[1] for leaf in self.one.sets_behind(left) if leaf[0] == "block" and leaf in beside]
        return [((self.brackets[name][0],), node_behind_open(name)) for name in names]

    def unlike_words(self, node):
        """Return the list of the words that just one of the grammars reads there."""
        level, left, right = node
        found = []
        for leaf in sorted(set(self.one.sets_behind(left)) ^ set(self.other.sets_behind(right))):
            found.append(leaf[1] if leaf[0] == "token" else self.brackets[leaf[1]][0])
        for owner in self.owners_around(level):
            if self.one.can_leave(left, owner) != self.other.can_leave(right, owner):
                found.append(END if owner == "" else self.brackets[owner][1])
        return found

    def owners_around(self, level):
        """Return the list of the owners that may end at this level."""
        if level == FREE:
            return [""] + list(self.brackets)
        return [""] if level == START else [level]


def node_behind_open(name):
    """Return the node behind the open token of a block."""
    return (name, ((name, 0),), ((name, 0),))
