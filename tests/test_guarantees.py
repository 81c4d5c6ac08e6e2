"""Point 3: the guarantees, over small random grammars and texts."""

import random
import unittest

from errorspans.comparing import difference, unlike_text
from errorspans.conflicts import window_at
from errorspans.documents import Document
from errorspans.expressions import is_expression
from errorspans.fixes import fix, quick_fixes
from errorspans.gaps import apply_insertions, gap_count, gap_spans
from errorspans.grammars import Grammar, mirrored
from errorspans.longtexts import long_error_count, long_span
from errorspans.reading import read_expression, read_grammar, read_text
from errorspans.repairs import apply_repair, is_repair, repair
from errorspans.reporter import Reporter
from errorspans.reports import report
from errorspans.session import Session
from errorspans.showing import show_expression, show_grammar, show_text
from errorspans.solutions import count_solutions, solution_at
from errorspans.spans import earliest, error_count, latest, spans
from errorspans.tokens import START
from errorspans.validity import is_valid
from errorspans.windows import context
from errorspans.witnesses import is_witness, witness
from helpers import AB, LETS, NESTS, Oracle, all_tuples, bad_windows, cuts, known_cases, most_apart, random_cases, \
    random_expression, random_grammars, share_element, share_gap, smallest_choices, wide_expression


class DualityTest(unittest.TestCase):
    """Guarantee (a)."""

    def test_errors_are_as_many_as_bad_windows_apart(self):
        for grammar, text in random_cases(61, 120, 6, 6):
            with self.subTest(item=grammar.item, blocks=grammar.blocks, text=text):
                count = error_count(grammar, text)
                self.assertEqual(count, most_apart(bad_windows(grammar, text), share_element))
                self.assertIs(is_witness(grammar, text, witness(grammar, text)), True)
                self.assertEqual(count, len(repair(grammar, text)))
                self.assertIs(is_repair(grammar, text, repair(grammar, text)), True)


class SpansTest(unittest.TestCase):
    """Guarantee (b)."""

    def test_places_of_solutions_are_those_of_spans(self):
        for grammar, text in random_cases(62, 120, 6, 7):
            found = spans(grammar, text)
            solutions = [solution_at(grammar, text, number) for number in range(count_solutions(grammar, text))]
            with self.subTest(item=grammar.item, blocks=grammar.blocks, text=text):
                for at, (least, greatest) in enumerate(found):
                    self.assertEqual({solution[at] for solution in solutions}, set(range(least, greatest + 1)))
                for (_, greatest), (least, _) in zip(found, found[1:]):
                    self.assertLess(greatest, least)


class IndependenceTest(unittest.TestCase):
    """Guarantee (c)."""

    def check_fix(self, grammar, text, place, tokens):
        """Check that the fix takes its span away and makes no other one longer."""
        before = spans(grammar, text)
        after = spans(grammar, apply_repair(text, ((place, tokens),)))
        others = [span for span in before if not span[0] <= place <= span[1]]
        self.assertEqual(len(others), len(before) - 1)
        self.assertEqual(len(after), len(others))
        for (least, greatest), found in zip(others, after):
            moved = len(tokens) - 1 if least > place else 0
            self.assertLessEqual(least + moved, found[0])
            self.assertLessEqual(found[1], greatest + moved)

    def test_fixes_at_each_place_of_each_span(self):
        for grammar, text in random_cases(64, 100, 6, 8):
            for number, (least, greatest) in enumerate(spans(grammar, text)):
                with self.subTest(item=grammar.item, blocks=grammar.blocks, text=text, number=number):
                    for place in range(least, greatest + 1):
                        self.check_fix(grammar, text, place, fix(grammar, text, place))
                    for place, tokens in quick_fixes(grammar, text, number):
                        self.check_fix(grammar, text, place, tokens)

    def test_errors_are_fixed_in_any_order(self):
        chance = random.Random(65)
        for grammar, text in random_cases(66, 80, 5, 12):
            with self.subTest(item=grammar.item, blocks=grammar.blocks, text=text):
                for _ in range(error_count(grammar, text)):
                    place = chance.randint(*chance.choice(spans(grammar, text)))
                    tokens = fix(grammar, text, place)
                    self.check_fix(grammar, text, place, tokens)
                    text = apply_repair(text, ((place, tokens),))
                self.assertTrue(Oracle(grammar).is_valid(text))


class EarlyAndFinalTest(unittest.TestCase):
    """Guarantee (d)."""

    def test_each_error_is_reported_where_it_is_certain(self):
        for grammar, text in random_cases(72, 60, 4, 5):
            endings = all_tuples(grammar.tokens()[:3], 3)
            reporter = Reporter(grammar)
            for at, word in enumerate(text):
                before = reporter.places()
                reporter.feed(word)
                places = reporter.places()
                window = text[places[-1] + 1:at + 1] if places else (START,) + text[:at + 1]
                going_on = endings + [context(grammar, window)[1]]
                with self.subTest(item=grammar.item, blocks=grammar.blocks, text=text, at=at):
                    self.assertEqual(places[:len(before)], before)
                    counts = [error_count(grammar, text[:at + 1] + ending) for ending in going_on]
                    self.assertEqual(min(counts), len(places))

    def test_reports_are_the_greatest_places_of_the_spans(self):
        for grammar, text in random_cases(73, 120, 6, 12):
            reporter = Reporter(grammar)
            for word in text:
                reporter.feed(word)
            reporter.finish()
            with self.subTest(item=grammar.item, blocks=grammar.blocks, text=text):
                self.assertEqual(reporter.places(), latest(grammar, text))

    def test_reports_of_a_text_stay_in_each_longer_one(self):
        chance = random.Random(74)
        for grammar, text in random_cases(75, 80, 4, 8):
            reporter = Reporter(grammar)
            for word in text:
                reporter.feed(word)
            places = reporter.places()
            for _ in range(6):
                reporter.feed(chance.choice((*grammar.tokens(), "z")))
                self.assertEqual(reporter.places()[:len(places)], places)
            reporter.finish()
            self.assertEqual(reporter.places()[:len(places)], places)


class HistoryTest(unittest.TestCase):
    """Guarantee (f)."""

    def check(self, document, grammar, text):
        self.assertEqual(document.text(), text)
        self.assertEqual(document.spans(), spans(grammar, text))
        self.assertEqual(document.error_count(), error_count(grammar, text))
        self.assertEqual(document, Document(grammar, text=text))

    def test_documents_behind_edits_and_undos(self):
        chance = random.Random(76)
        for grammar, text in random_cases(77, 50, 3, 7):
            document = Document(grammar, text=text)
            texts, at = [text], 0
            for _ in range(25):
                if chance.random() < 0.5:
                    begin = chance.randint(0, len(document))
                    stop = chance.randint(begin, min(len(document), begin + 2))
                    tokens = tuple([chance.choice((*grammar.tokens(), "z")) for _ in range(chance.randint(0, 2))])
                    texts, at = texts[:at + 1] + [texts[at][:begin] + tokens + texts[at][stop:]], at + 1
                    document.edit(lambda inner: inner.replace_range(begin, stop, tokens))
                elif chance.random() < 0.6 and at > 0:
                    document.undo()
                    at -= 1
                elif at < len(texts) - 1:
                    document.redo()
                    at += 1
                with self.subTest(item=grammar.item, blocks=grammar.blocks, text=texts[at]):
                    self.check(document, grammar, texts[at])

    def test_repeated_texts_as_written_out(self):
        chance = random.Random(78)
        for grammar, text in random_cases(79, 80, 3, 6):
            brackets = [word for kept in grammar.blocks for word in kept[1:3]]
            words = [word for word in (*grammar.tokens(), "z") if word not in brackets]
            pieces = ((1, text), (chance.randint(0, 30), tuple([chance.choice(words) for _ in range(chance.randint(1, 3))])),
                      (1, text[::-1]))
            found = spans(grammar, tuple([word for times, part in pieces for _ in range(times) for word in part]))
            with self.subTest(item=grammar.item, blocks=grammar.blocks, pieces=pieces):
                self.assertEqual(long_error_count(grammar, pieces), len(found))
                for number, span in enumerate(found):
                    self.assertEqual(long_span(grammar, pieces, number), span)


class TwoGrammarsTest(unittest.TestCase):
    """Guarantee (g)."""

    def test_error_counts_are_equal_just_where_no_window_differs(self):
        alike = 0
        grammars = [grammar for grammar in random_grammars(160, 80) if not grammar.blocks]
        for one, other in zip(grammars, grammars[1:]):
            words = sorted(set(one.tokens()) | set(other.tokens()))
            texts = all_tuples(words, 5)
            with self.subTest(one=one.item, other=other.item):
                if difference(one, other) is None:
                    alike += 1
                    self.assertEqual([error_count(one, text) for text in texts], [error_count(other, text) for text in texts])
                else:
                    text = unlike_text(one, other)
                    self.assertNotEqual(error_count(one, text), error_count(other, text))
        self.assertGreater(alike, 3)

    def test_error_counts_are_equal_with_blocks_written_otherwise(self):
        chance = random.Random(81)
        for grammar in [LETS, NESTS, *random_grammars(60, 82)]:
            blocks = tuple([kept[:3] + (("choice", kept[3], kept[3]),) for kept in grammar.blocks])
            other = Grammar(("repeat", grammar.item), blocks=blocks)
            self.assertIs(difference(grammar, other), None)
            for _ in range(8):
                text = tuple([chance.choice((*grammar.tokens(), "z")) for _ in range(chance.randint(0, 12))])
                self.assertEqual(spans(grammar, text), spans(other, text))


class InsertionsTest(unittest.TestCase):
    """Guarantee (e)."""

    def test_gaps_are_as_many_as_bad_windows_apart(self):
        for grammar, text in known_cases(67, 120, 6, 6):
            with self.subTest(item=grammar.item, blocks=grammar.blocks, text=text):
                self.assertEqual(gap_count(grammar, text), most_apart(bad_windows(grammar, text), share_gap))

    def test_gaps_of_solutions_are_those_of_spans(self):
        for grammar, text in known_cases(68, 120, 6, 7):
            found = gap_spans(grammar, text)
            solutions = smallest_choices(len(text) + 1, bad_windows(grammar, text), cuts)
            with self.subTest(item=grammar.item, blocks=grammar.blocks, text=text):
                for at, (least, greatest) in enumerate(found):
                    self.assertEqual({solution[at] for solution in solutions}, set(range(least, greatest + 1)))
                for (_, greatest), (least, _) in zip(found, found[1:]):
                    self.assertLess(greatest, least)

    def test_insertions_at_each_gap_of_each_span(self):
        for grammar, text in known_cases(69, 80, 6, 8):
            found = gap_spans(grammar, text)
            ends = [(-1, -1), *found, (len(text) + 1, len(text) + 1)]
            for number, (least, greatest) in enumerate(found):
                for gap in range(least, greatest + 1):
                    ahead = window_at(text, ends[number][1], gap)
                    behind = window_at(text, gap, ends[number + 2][0])
                    tokens = context(grammar, ahead)[1] + context(grammar, behind)[0]
                    with self.subTest(item=grammar.item, blocks=grammar.blocks, text=text, gap=gap):
                        self.check_insertion(grammar, text, gap, tokens)

    def check_insertion(self, grammar, text, gap, tokens):
        """Check that the insertion takes the span of its gap away and makes no other one longer."""
        others = [span for span in gap_spans(grammar, text) if not span[0] <= gap <= span[1]]
        after = gap_spans(grammar, apply_insertions(text, ((gap, tokens),)))
        self.assertEqual(len(after), len(others))
        for (least, greatest), found in zip(others, after):
            moved = len(tokens) if least > gap else 0
            self.assertLessEqual(least + moved, found[0])
            self.assertLessEqual(found[1], greatest + moved)


class ReadBackTest(unittest.TestCase):
    """Guarantee (h)."""

    def test_expressions(self):
        chance = random.Random(83)
        for _ in range(400):
            expression = random_expression(chance, chance.randint(1, 4), ["a", "b", "abcdefgh"], ["x", "item"])
            if is_expression(expression):
                self.assertEqual(read_expression(show_expression(expression)), expression)
            expression = wide_expression(chance, chance.randint(1, 16), ["a", "b"], ["x"])
            self.assertEqual(read_expression(show_expression(expression)), expression)

    def test_grammars_and_texts(self):
        for grammar, text in random_cases(84, 150, 3, 12):
            self.assertEqual(read_grammar(show_grammar(grammar)), grammar)
            self.assertEqual(read_text(show_text(text)), text)
            self.assertEqual(spans(read_grammar(show_grammar(grammar)), text), spans(grammar, text))


class AgreementTest(unittest.TestCase):
    """All ways to count the errors of a text agree."""

    def counts(self, grammar, text):
        """Return the list of the numbers of errors, as each way finds them."""
        reporter = Reporter(grammar)
        told = [reporter.feed(word) for word in text] + [reporter.finish()]
        session = Session(show_grammar(grammar))
        session.say("text " + show_text(text))
        shown = session.say("spans")
        document = Document(grammar, text=text)
        half = len(text) // 2
        pieces = ((1, text[:half]), (0, text), (1, text[half:]))
        return [
            error_count(grammar, text), len(spans(grammar, text)), len(latest(grammar, text)), len(earliest(grammar, text)),
            len(witness(grammar, text)), len(repair(grammar, text)), len(solution_at(grammar, text, 0)),
            len([place for place in told if place is not None]), len(reporter.places()),
            document.error_count(), len(document.spans()), document.clone().error_count(),
            int(session.say("count")), 0 if shown == "-" else len(shown.split(" ")),
            0 if session.say("repair") == "-" else len(session.say("repair").split(", ")),
            long_error_count(grammar, pieces), long_error_count(grammar, tuple([(1, (word,)) for word in text])),
            error_count(mirrored(grammar), text[::-1]),
        ]

    def test_error_counts(self):
        found = set()
        for grammar, text in random_cases(85, 120, 5, 12):
            counts = self.counts(grammar, text)
            with self.subTest(item=grammar.item, blocks=grammar.blocks, text=text):
                self.assertEqual(counts, [counts[0]] * len(counts))
            found.add(counts[0])
        self.assertTrue({0, 1, 2, 3, 4} <= found)

    def test_texts_of_400_tokens(self):
        chance = random.Random(86)
        for grammar in (AB, LETS, NESTS):
            text = tuple([chance.choice((*grammar.tokens(), "z")) for _ in range(400)])
            counts = self.counts(grammar, text)
            self.assertEqual(counts, [counts[0]] * len(counts))

    def test_spans_and_places(self):
        for grammar, text in random_cases(87, 80, 4, 9):
            found = spans(grammar, text)
            session = Session(show_grammar(grammar))
            session.say("text " + show_text(text))
            with self.subTest(item=grammar.item, blocks=grammar.blocks, text=text):
                self.assertEqual(tuple(zip(earliest(grammar, text), latest(grammar, text))), found)
                self.assertEqual(Document(grammar, text=text).spans(), found)
                self.assertEqual(tuple([long_span(grammar, ((1, text),), at) for at in range(len(found))]), found)
                self.assertEqual(tuple([report(grammar, text, at)[:2] for at in range(len(found))]), found)
                self.assertEqual(session.say("spans"), " ".join([f"{least}-{greatest}" for least, greatest in found]) or "-")
                self.assertEqual(int(session.say("solutions")), count_solutions(grammar, text))
                self.assertEqual(is_valid(grammar, text), not found)


class MirrorTest(unittest.TestCase):
    """Point 6: the reversed text by the mirrored grammar."""

    def test_reversed_texts_have_as_many_errors(self):
        for grammar, text in random_cases(63, 150, 8, 12):
            with self.subTest(item=grammar.item, blocks=grammar.blocks, text=text):
                self.assertEqual(error_count(mirrored(grammar), text[::-1]), error_count(grammar, text))


if __name__ == "__main__":
    unittest.main()
