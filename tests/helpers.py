"""What several test files need: values of every kind, grammars, and slow second ways to compute."""

import copy
import itertools
import random

from errorspans.expressions import leaves
from errorspans.grammars import Grammar
from errorspans.scanner import Scanner
from errorspans.states import can_end, followers, live_states
from errorspans.tokens import END, START
from errorspans.validity import completion
from errorspans.windows import is_good


def nested(depth, value):
    """Return the value inside tuples, lists and dicts by turns, so many deep."""
    for level in range(depth):
        value = [(value,), [value], {"k": value}][level % 3]
    return value


# Values of every kind that point 2 lists; none of them is a token, an expression, a window or a pair.
ODD_VALUES = [
    0, 1, -1, 10 ** 18, -(10 ** 18), True, False, None, "", " ", "A", "a1", "a b", "^^", "\u00e9", "\n", "a\n",
    [], ["a"], {}, {"a": "b"}, ["token", "a"], ["a", "b"], (0,), (None,), (True,), ("",), ("A",), ((),), ([],), ({},),
    (("a",),), ("a", ("b",)), (["a"], ["b"]), [("a",), ("b",)], ("token", "A"), ("token", ["a"]),
    (["token"], "a"), ({"token": 1}, "a"), (None, "a", "b"), nested(30, "a"), nested(30, 0), nested(29, ("token", "a")),
]


def token(name):
    return ("token", name)


def block(name):
    return ("block", name)


AB = Grammar(("sequence", token("a"), token("b")))
LETS = Grammar(
    ("sequence", token("let"), token("name"), block("list")),
    blocks=(("list", "lpar", "rpar", ("sequence", token("num"), ("repeat", ("sequence", token("comma"), token("num"))))),),
)
# Blocks in themselves and in one another.
NESTS = Grammar(
    ("choice", token("a"), ("sequence", block("x"), ("optional", block("y")))),
    blocks=(
        ("x", "o", "c", ("repeat", ("choice", token("a"), block("x"), block("y")))),
        ("y", "p", "q", ("sequence", token("b"), ("optional", block("x")))),
    ),
)


def check_error_for_any_value(case, function, error, field, values=ODD_VALUES):
    """Check that function raises the error for each value, which it holds unchanged under the name of that field."""
    for value in values:
        before = copy.deepcopy(value)
        with case.subTest(value=value):
            with case.assertRaises(error) as caught:
                function(value)
            case.assertIs(type(caught.exception), error)
            case.assertIs(getattr(caught.exception, field), value)
            case.assertEqual(value, before)
            case.assertIs(type(value), type(before))


def check_arguments_stay(case, function, *arguments):
    """Check that a call gives the same twice and leaves its arguments as they were."""
    before = [facts_of(argument) for argument in arguments]
    result = function(*arguments)
    case.assertEqual(function(*arguments), result)
    case.assertEqual([facts_of(argument) for argument in arguments], before)


def facts_of(value):
    """Return a copy of the value; for a grammar, of its attributes."""
    return copy.deepcopy((value.item, value.blocks) if isinstance(value, Grammar) else value)


def check_for_any_value(case, function, values=ODD_VALUES, expected=False):
    """Check that function returns the expected bool for each value and leaves the value as it was."""
    for value in values:
        before = copy.deepcopy(value)
        with case.subTest(value=value):
            case.assertIs(function(value), expected)
            case.assertEqual(value, before)
            case.assertIs(type(value), type(before))


def expression_texts(grammar, expression, limit):
    """Return the set of all texts of the expression of at most limit tokens, straight from point 7."""
    kind = expression[0]
    if kind == "token":
        return {(expression[1],)} if limit >= 1 else set()
    if kind == "block":
        if limit < 2:
            return set()
        _, first, last, inner = grammar.block(expression[1])
        return {(first,) + text + (last,) for text in expression_texts(grammar, inner, limit - 2)}
    if kind == "sequence":
        found = {()}
        for part in expression[1:]:
            found = joined(found, grammar, part, limit)
        return found
    if kind == "choice":
        return set().union(*[expression_texts(grammar, part, limit) for part in expression[1:]])
    if kind == "optional":
        return {()} | expression_texts(grammar, expression[1], limit)
    return repeated_texts(expression_texts(grammar, expression[1], limit), limit)


def joined(heads, grammar, part, limit):
    tails = expression_texts(grammar, part, limit - min([len(head) for head in heads], default=0))
    return {head + tail for head in heads for tail in tails if len(head + tail) <= limit}


def repeated_texts(texts, limit):
    found = {()}
    newest = {()}
    while newest:
        newest = {head + text for head in newest for text in texts if text and len(head + text) <= limit} - found
        found |= newest
    return found


def valid_texts(grammar, limit):
    """Return the set of all valid texts of at most limit tokens."""
    return repeated_texts(expression_texts(grammar, grammar.item, limit), limit)


class Oracle:
    """Decides for texts of any length whether they are valid, straight from point 7, by the places where parts end."""

    def __init__(self, grammar):
        self.grammar = grammar

    def is_valid(self, text):
        self.text = text
        self.known = {}
        return len(text) in self.stops(("repeat", self.grammar.item), 0)

    def stops(self, expression, begin):
        """Return the places where a text of the expression that begins at begin may stop."""
        key = (expression, begin)
        if key not in self.known:
            self.known[key] = self.find_stops(expression, begin)
        return self.known[key]

    def find_stops(self, expression, begin):
        kind, *parts = expression
        if kind == "token":
            return {begin + 1} if self.text[begin:begin + 1] == (parts[0],) else set()
        if kind == "block":
            _, first, last, inner = self.grammar.block(parts[0])
            if self.text[begin:begin + 1] != (first,):
                return set()
            return {stop + 1 for stop in self.stops(inner, begin + 1) if self.text[stop:stop + 1] == (last,)}
        if kind == "choice":
            return set().union(*[self.stops(part, begin) for part in parts])
        if kind == "optional":
            return {begin} | self.stops(parts[0], begin)
        found = {begin}
        if kind == "sequence":
            for part in parts:
                found = set().union(*[self.stops(part, at) for at in found])
            return found
        waiting = [begin]
        while waiting:
            new = self.stops(parts[0], waiting.pop()) - found
            found |= new
            waiting += sorted(new)
        return found


class Model:
    """The steps of point 10, written once more over sets, for tokens and END alone."""

    def __init__(self, grammar, at_start):
        self.grammar, self.at_start = grammar, at_start
        self.states = {("", 0)} if at_start else set(live_states(grammar))
        self.stack, self.ended = [], False

    def leaf(self, state):
        owner, number = state
        expression = self.grammar.item if owner == "" else self.grammar.block(owner)[3]
        return leaves(expression)[number - 1] if number else None

    def by(self, leaf):
        return {at for state in self.states for at in followers(self.grammar, state) if self.leaf(at) == leaf}

    def leaves_owner(self, owner):
        return any([state[0] == owner and can_end(self.grammar, state) for state in self.states])

    def step(self, word):
        """Take a step; return whether it did not fail."""
        if self.ended:
            return False
        if word == END:
            self.ended = not self.stack and self.leaves_owner("")
            return self.ended
        for name, first, last, _ in self.grammar.blocks:
            if word == first:
                self.stack.append((name, self.by(block(name))))
                self.states = {(name, 0)}
                return bool(self.stack[-1][1])
            if word == last:
                return self.close(name)
        self.states = self.by(token(word))
        return bool(self.states)

    def close(self, name):
        if not self.leaves_owner(name):
            return False
        if self.stack:
            top, self.states = self.stack.pop()
            return top == name
        self.states = {state for state in live_states(self.grammar) if self.leaf(state) == block(name)}
        return not self.at_start


def all_tuples(words, limit):
    """Return all tuples of at most limit of these words."""
    return [found for length in range(limit + 1) for found in itertools.product(words, repeat=length)]


def random_expression(chance, depth, plain, names):
    kinds = ["token"] * 3 + ["block"] * (2 if names else 0)
    if depth > 1:
        kinds += ["sequence"] * 3 + ["choice"] * 2 + ["repeat", "optional"]
    kind = chance.choice(kinds)
    if kind == "token":
        return (kind, chance.choice(plain))
    if kind == "block":
        return (kind, chance.choice(names))
    count = chance.randint(2, 3) if kind in ("sequence", "choice") else 1
    return (kind,) + tuple([random_expression(chance, depth - 1, plain, names) for _ in range(count)])


def wide_expression(chance, count, plain, names):
    """Return an expression with so many leaves, from 1 to 16."""
    if count == 1:
        return chance.choice([token(name) for name in plain] + [block(name) for name in names])
    parts = chance.randint(2, min(count, 6)) if count <= 6 else chance.randint(4, 6)
    ends = [0, *sorted(chance.sample(range(1, count), parts - 1)), count]
    inner = [wide_expression(chance, stop - begin, plain, names) for begin, stop in zip(ends, ends[1:])]
    return (chance.choice(("sequence", "choice")), *inner)


def random_grammars(count, seed):
    """Return so many small grammars, the same ones in each run; some have blocks that are never read."""
    chance = random.Random(seed)
    found = []
    for _ in range(count):
        names = ["x", "y"][:chance.randint(0, 2)]
        plain = ["a", "b"][:chance.randint(1, 2)]
        blocks = [(name, "o" + name, "c" + name, random_expression(chance, 3, plain, names)) for name in names]
        found.append(Grammar(random_expression(chance, 3, plain, names), blocks=tuple(blocks)))
    return found


def windows_of(text):
    """Return a dict of all windows of the text by (begin, stop), as point 11 numbers them."""
    marked = [START, *text, END]
    return {(begin, stop): tuple([marked[at + 1] for at in range(begin, stop)])
            for begin in range(-1, len(text) + 2) for stop in range(begin, len(text) + 2)}


def bad_windows(grammar, text):
    """Return the list of (begin, stop) of all bad windows of the text, ascending."""
    return [at for at, window in windows_of(text).items() if not is_good(grammar, window)]


def hits(place, window):
    """Return whether a place hits a window (begin, stop)."""
    return window[0] <= place < window[1]


def cuts(gap, window):
    """Return whether a gap cuts a window (begin, stop)."""
    return window[0] < gap < window[1]


def smallest_choices(count, windows, touches):
    """Return all tuples, ascending, of as few numbers below count as possible that touch all windows."""
    for many in range(count + 1):
        found = [choice for choice in itertools.combinations(range(count), many)
                 if all([any([touches(number, window) for number in choice]) for window in windows])]
        if found:
            return found
    raise AssertionError("no choice touches all windows")


def ranges_of(choices):
    """Return the tuple of (least, greatest) of the first ones, the second ones and so on of all choices."""
    return tuple([(min(column), max(column)) for column in zip(*choices)])


def most_apart(windows, share):
    """Return the greatest number of these windows no two of which share something."""
    if not windows:
        return 0
    first, *rest = windows
    with_first = 1 + most_apart([window for window in rest if not share(first, window)], share)
    if not any([share(first, window) for window in rest]):
        return with_first
    return max(with_first, most_apart(rest, share))


def share_element(one, other):
    return max(one[0], other[0]) < min(one[1], other[1])


def share_gap(one, other):
    return max(one[0], other[0]) + 1 < min(one[1], other[1])


def random_valid_text(chance, grammar, length):
    """Return a valid text of at least so many tokens, if the grammar has one, with blocks at most about 35 deep."""
    scanner = Scanner(grammar, at_start=True)
    text = ()
    while len(text) < length:
        words = [word for word in scanner.expected() if word != END]
        if not words:
            return text
        text += (completion(grammar, text)[0] if scanner.depth() > 35 else chance.choice(words),)
        scanner.feed(text[-1])
    return text + completion(grammar, text)


def random_text(chance, grammar, longest):
    """Return a text of at most so many tokens: a valid one with some changes, or any tokens."""
    words = grammar.tokens() + (("z",) if chance.random() < 0.2 else ())
    if chance.random() < 0.4:
        return tuple([chance.choice(words) for _ in range(chance.randint(0, longest))])
    text = list(random_valid_text(chance, grammar, chance.randint(0, longest)))[:longest]
    for _ in range(chance.randint(0, 2)):
        at = chance.randint(0, len(text))
        text[at:at + chance.randint(0, 1)] = [chance.choice(words) for _ in range(chance.randint(0, 1))]
    return tuple(text[:longest])


def random_cases(seed, grammars, texts, longest):
    """Return pairs of a small grammar and a short text, the same ones in each run."""
    chance = random.Random(seed)
    return [(grammar, random_text(chance, grammar, longest))
            for grammar in [AB, LETS, NESTS, *random_grammars(grammars, seed)] for _ in range(texts)]


def has_known_tokens(grammar, text):
    """Return whether no token of the text is bad by itself."""
    return all([is_good(grammar, (word,)) for word in text])


def known_cases(seed, grammars, texts, longest):
    """Return the random cases whose tokens are not bad by themselves."""
    return [case for case in random_cases(seed, grammars, texts, longest) if has_known_tokens(*case)]
