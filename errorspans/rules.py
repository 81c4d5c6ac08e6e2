"""The rules of reading by a grammar: its states, how they follow one another, and how they lead to an end."""

from errorspans.expressions import ends_behind, leaves, numbers_behind, shape_of

BEGIN = ("", 0)


class Rules:
    """What reading needs of an item and blocks, computed once.

    opened, closed: the name of the block by its open token, by its close token.
    brackets: (open token, close token) by the name of the block.
    leaf_at: by state, the leaf that was read last; states of number 0 have none.
    ending: by state, whether the owner's expression may end there, or the text for owner "".
    costs: by state, how many tokens a shortest way to the end of the owner's expression has, where there is a way.
    onward: by state, the next one on this way, where it has tokens.
    live: all live states, ascending.
    followers: by live state, the live states to which reading one leaf leads, ascending.
    outside: by name of a live block, a live state behind it; from block to block they lead to the owner "".
    """

    def __init__(self, item, blocks):
        owners = [("", item)] + [(block[0], block[3]) for block in blocks]
        shapes = {owner: shape_of(expression, 1) for owner, expression in owners}
        self.opened = {block[1]: block[0] for block in blocks}
        self.closed = {block[2]: block[0] for block in blocks}
        self.brackets = {block[0]: (block[1], block[2]) for block in blocks}
        self.leaf_at = {(owner, at + 1): leaf for owner, inner in owners for at, leaf in enumerate(leaves(inner))}
        states = [(owner, 0) for owner, inner in owners] + list(self.leaf_at)
        self.ending = {state: state == BEGIN or ends_behind(shapes[state[0]], state[1]) for state in states}
        behind = {state: states_behind(shapes[state[0]], state, self.ending[state]) for state in states}
        self.costs = {state: 0 for state in states if self.ending[state]}
        self.onward = {}
        while self.shorten_ways(behind):
            pass
        self.outside = {}
        found = self.find_live(behind)
        self.live = tuple(sorted(found))
        self.followers = {state: tuple([at for at in behind[state] if at in found]) for state in found}

    def shorten_ways(self, behind):
        """Go through all states once and take each shorter way to an end; return whether there was one."""
        changed = False
        for state in behind:
            for follower in behind[state]:
                cost = self.cost_through(follower)
                if cost is not None and (state not in self.costs or cost < self.costs[state]):
                    self.costs[state] = cost
                    self.onward[state] = follower
                    changed = True
        return changed

    def cost_through(self, state):
        """Return how many tokens reading the leaf of the state and going on to an end takes, None without a way."""
        kind, name = self.leaf_at[state]
        if state not in self.costs or (kind == "block" and (name, 0) not in self.costs):
            return None
        return self.costs[state] + (1 if kind == "token" else 2 + self.costs[(name, 0)])

    def find_live(self, behind):
        """Return a dict of the live states, and note for each live block a state outside of it."""
        found = {BEGIN: True}
        waiting = [BEGIN]
        while waiting:
            state = waiting.pop()
            for follower in behind[state]:
                if follower in found or self.cost_through(follower) is None:
                    continue
                found[follower] = True
                waiting.append(follower)
                kind, name = self.leaf_at[follower]
                if kind == "block" and name not in self.outside:
                    self.outside[name] = follower
                    found[(name, 0)] = True
                    waiting.append((name, 0))
        return found

    def behind_block(self, name):
        """Return the ascending tuple of the live states behind a block of that name, wherever it stands."""
        return tuple([state for state in self.live if self.leaf_at.get(state) == ("block", name)])


def states_behind(shape, state, ends):
    """Return the list of the states that reading one leaf may lead to, live or not, ascending."""
    owner, number = state
    numbers = numbers_behind(shape, number)
    if owner == "" and ends:
        numbers += numbers_behind(shape, 0)
    return [(owner, at) for at in sorted(set(numbers))]
