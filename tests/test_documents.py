"""Point 18: documents."""

import copy
import random
import unittest

from errorspans.documents import HISTORY, Document
from errorspans.errors import BadRange, BadText, Busy, NoError, NotAFix, NothingToRedo, NothingToUndo, SpanError
from errorspans.fixes import is_fix, quick_fixes
from errorspans.grammars import Grammar
from errorspans.spans import error_count, spans
from helpers import AB, LETS, NESTS, ODD_VALUES, check_error_for_any_value, facts_of, random_cases, random_text, token

TEXT = ("a", "b", "a")
NO_TEXTS = [*ODD_VALUES, "a", "ab", ["a", "b"], ("a", "B"), ("a", ""), ("a", None), ("a", 1), ("^",), ("a", "$"), ("abcdefghi",)]
NO_INTEGERS = [value for value in ODD_VALUES if type(value) is not int] + ["0", "1", (0,), [0], {0: 0}, "a", ("a",)]


def facts(document):
    """Return all that a document tells of itself."""
    return (document.text(), document.undo_steps(), document.redo_steps(), len(document))


class Stop(Exception):
    """What a function within an edit raises."""


class DocumentCase(unittest.TestCase):

    def check_refused(self, document, call, error, **attributes):
        """Check that the call raises just this error with these values and changes nothing."""
        before = facts(document)
        with self.assertRaises(SpanError) as caught:
            call()
        self.assertIs(type(caught.exception), error)
        self.assertEqual(vars(caught.exception), attributes)
        self.assertEqual(facts(document), before)

    def check(self, document, text, undo_steps, redo_steps):
        self.assertEqual(facts(document), (text, undo_steps, redo_steps, len(text)))
        self.assertIs(type(document.text()), tuple)


class ConstructorTest(DocumentCase):

    def test_without_a_text(self):
        document = Document(AB)
        self.check(document, (), 0, 0)
        self.assertEqual((document.spans(), document.error_count()), ((), 0))

    def test_with_a_text(self):
        self.check(Document(AB, text=TEXT), TEXT, 0, 0)
        self.check(Document(grammar=AB, history=3, text=("z",)), ("z",), 0, 0)
        self.check(Document(AB, text=("a",) * 400), ("a",) * 400, 0, 0)

    def test_history_is_50(self):
        self.assertEqual(HISTORY, 50)

    def test_by_name_only(self):
        with self.assertRaises(TypeError):
            Document(AB, ())
        with self.assertRaises(TypeError):
            Document()

    def test_no_text(self):
        check_error_for_any_value(self, lambda value: Document(AB, text=value), BadText, "value", NO_TEXTS)

    def test_methods_stand_in_the_class(self):
        for name in ("replace_range", "insert_tokens", "delete_range", "fix", "undo", "redo", "edit", "text", "undo_steps",
                     "redo_steps", "spans", "error_count", "clone", "__eq__", "__len__", "__init__"):
            self.assertIn(name, vars(Document))


class EditingTest(DocumentCase):

    def check_step(self, text, call, after):
        """Check that the call makes one step from the text to the other one, that can be undone and redone."""
        document = Document(AB, text=text)
        self.assertIs(call(document), None)
        self.check(document, after, 1, 0)
        self.assertEqual((document.spans(), document.error_count()), (spans(AB, after), error_count(AB, after)))
        self.assertIs(document.undo(), None)
        self.check(document, text, 0, 1)
        self.assertIs(document.redo(), None)
        self.check(document, after, 1, 0)

    def test_replace_range(self):
        for begin, stop, tokens in ((0, 0, ("z",)), (0, 1, ("z",)), (0, 1, ()), (0, 3, ("x", "y")), (0, 3, ()), (1, 1, ("z",)),
                                    (1, 2, ("x", "y")), (1, 3, ()), (2, 3, ("z",)), (3, 3, ("z", "z")), (0, 0, ()), (3, 3, ())):
            after = list(TEXT)
            after[begin:stop] = tokens
            self.check_step(TEXT, lambda document: document.replace_range(begin, stop, tokens), tuple(after))
        self.check_step(TEXT, lambda document: document.replace_range(begin=1, stop=2, tokens=("z",)), ("a", "z", "a"))

    def test_insert_tokens(self):
        for at in range(4):
            after = TEXT[:at] + ("x", "y") + TEXT[at:]
            self.check_step(TEXT, lambda document: document.insert_tokens(at, ("x", "y")), after)
        self.check_step(TEXT, lambda document: document.insert_tokens(tokens=("z",), at=3), TEXT + ("z",))

    def test_delete_range(self):
        for begin in range(4):
            for stop in range(begin, 4):
                self.check_step(TEXT, lambda document: document.delete_range(begin, stop), TEXT[:begin] + TEXT[stop:])
        self.check_step(TEXT, lambda document: document.delete_range(stop=2, begin=1), ("a", "a"))

    def test_empty_text(self):
        self.check_step((), lambda document: document.replace_range(0, 0, ("a", "b")), ("a", "b"))
        self.check_step((), lambda document: document.insert_tokens(0, ("z",)), ("z",))
        self.check_step((), lambda document: document.delete_range(0, 0), ())

    def test_steps_that_leave_the_text_the_same(self):
        for call in (lambda document: document.replace_range(0, 3, TEXT), lambda document: document.replace_range(1, 2, ("b",)),
                     lambda document: document.insert_tokens(2, ()), lambda document: document.delete_range(3, 3)):
            self.check_step(TEXT, call, TEXT)

    def test_passed_values_stay(self):
        text, tokens, before = ("a", "b"), ("b", "z"), facts_of(AB)
        document = Document(AB, text=text)
        document.replace_range(0, 1, tokens)
        document.undo()
        self.assertEqual((text, tokens, facts_of(AB)), (("a", "b"), ("b", "z"), before))

    def test_bad_range(self):
        document = Document(AB, text=TEXT)
        wrong = [(-1, 0), (-1, -1), (0, 4), (4, 4), (3, 4), (1, 0), (3, 2), (3, 0), (10 ** 18, 10 ** 18), (-(10 ** 18), 3),
                 (0, -1), (0, 10 ** 18)]
        wrong += [(value, 3) for value in NO_INTEGERS] + [(0, value) for value in NO_INTEGERS]
        wrong += [(value, value) for value in NO_INTEGERS]
        for begin, stop in wrong:
            for tokens in (("a",), (), None, ["a"], "a"):
                with self.subTest(begin=begin, stop=stop, tokens=tokens):
                    self.check_refused(document, lambda: document.replace_range(begin, stop, tokens), BadRange, value=(begin, stop))
            with self.subTest(begin=begin, stop=stop):
                self.check_refused(document, lambda: document.delete_range(begin, stop), BadRange, value=(begin, stop))
        self.check_refused(document, lambda: document.replace_range(True, 2, ()), BadRange, value=(True, 2))
        self.check_refused(document, lambda: document.replace_range(0, False, ()), BadRange, value=(0, False))

    def test_bad_range_of_insertions(self):
        document = Document(AB, text=TEXT)
        for at in [-1, 4, 10 ** 18, -(10 ** 18), *NO_INTEGERS]:
            for tokens in (("a",), (), None, ["a"]):
                with self.subTest(at=at, tokens=tokens):
                    self.check_refused(document, lambda: document.insert_tokens(at, tokens), BadRange, value=(at, at))

    def test_bad_range_holds_the_very_values(self):
        held = ["a"]
        with self.assertRaises(BadRange) as caught:
            Document(AB).replace_range(held, None, ())
        self.assertIs(caught.exception.value[0], held)

    def test_bad_text(self):
        document = Document(AB, text=TEXT)
        for call in (lambda value: document.replace_range(0, 1, value), lambda value: document.replace_range(3, 3, value),
                     lambda value: document.insert_tokens(0, value)):
            check_error_for_any_value(self, call, BadText, "value", NO_TEXTS)
        self.check(document, TEXT, 0, 0)

    def test_refused_calls_keep_what_can_be_redone(self):
        document = Document(AB, text=TEXT)
        document.delete_range(0, 1)
        document.undo()
        self.check_refused(document, lambda: document.delete_range(0, 4), BadRange, value=(0, 4))
        self.check_refused(document, lambda: document.insert_tokens(0, ["a"]), BadText, value=["a"])
        self.check_refused(document, lambda: document.fix(2, 0, ()), NoError, number=2)
        self.check(document, TEXT, 0, 1)


class FixTest(DocumentCase):

    def test_fixes(self):
        for number, place, tokens, after in ((0, 0, (), ("a", "a")), (0, 0, ("a", "b"), ("a", "b", "a", "a")),
                                             (0, 1, ("b",), ("a", "b", "a")), (1, 2, (), ("a", "a")),
                                             (1, 3, ("b",), ("a", "a", "a", "b")), (1, 2, ("a", "b"), ("a", "a", "a", "b"))):
            document = Document(AB, text=("a", "a", "a"))
            self.assertIs(document.fix(number, place, tokens), None)
            self.check(document, after, 1, 0)
            self.assertEqual(document.error_count(), 1)
            document.undo()
            self.check(document, ("a", "a", "a"), 0, 1)
        document = Document(AB, text=("a",))
        document.fix(number=0, place=1, tokens=("b",))
        self.check(document, ("a", "b"), 1, 0)

    def test_no_error(self):
        document = Document(AB, text=("a", "a", "a"))
        for number in [-1, -2, 2, 3, 10 ** 18, -(10 ** 18), *NO_INTEGERS]:
            for place, tokens in ((0, ()), (None, None), (9, ["a"])):
                with self.subTest(number=number):
                    self.check_refused(document, lambda: document.fix(number, place, tokens), NoError, number=number)
        check_error_for_any_value(self, lambda value: Document(AB).fix(value, 0, ()), NoError, "number", [0, *NO_INTEGERS])

    def test_not_a_fix(self):
        document = Document(AB, text=("a", "a", "a"))
        wrong = [(0, ("a",)), (0, ("z",)), (1, ("a", "a")), (-1, ()), (-1, ("b",)), (4, ("b",)), (10 ** 18, ())]
        wrong += [(place, ()) for place in NO_INTEGERS] + [(0, tokens) for tokens in NO_TEXTS]
        wrong += [(place, place) for place in NO_INTEGERS]
        for place, tokens in wrong:
            with self.subTest(place=place, tokens=tokens):
                self.check_refused(document, lambda: document.fix(0, place, tokens), NotAFix, value=(place, tokens))
        for place in (True, False):
            self.check_refused(document, lambda: document.fix(0, place, ()), NotAFix, value=(place, ()))
            self.assertIs(is_fix(AB, document.text(), int(place), ()), True)

    def test_places_in_another_span(self):
        document = Document(AB, text=("a", "a", "a"))
        for number, place, tokens in ((1, 0, ()), (1, 1, ("b",)), (0, 2, ()), (0, 3, ("b",))):
            self.assertIs(is_fix(AB, document.text(), place, tokens), True)
            self.check_refused(document, lambda: document.fix(number, place, tokens), NotAFix, value=(place, tokens))

    def test_not_a_fix_holds_the_very_values(self):
        place, tokens = ["a"], {"a": "b"}
        with self.assertRaises(NotAFix) as caught:
            Document(AB, text=("a",)).fix(0, place, tokens)
        self.assertIs(caught.exception.value[0], place)
        self.assertIs(caught.exception.value[1], tokens)

    def test_quick_fixes_until_none_is_left(self):
        chance = random.Random(111)
        for grammar, text in random_cases(112, 40, 4, 9):
            document = Document(grammar, text=text)
            count = document.error_count()
            for _ in range(count):
                number = chance.randrange(document.error_count())
                found = quick_fixes(grammar, document.text(), number)
                if not found:
                    break
                place, tokens = chance.choice(found)
                before = document.error_count()
                document.fix(number, place, tokens)
                self.assertEqual(document.error_count(), before - 1)


class UndoTest(DocumentCase):

    def test_nothing(self):
        document = Document(AB, text=TEXT)
        for _ in range(2):
            self.check_refused(document, document.undo, NothingToUndo)
            self.check_refused(document, document.redo, NothingToRedo)

    def test_up_to_and_beyond_the_first_and_the_last_step(self):
        document = Document(AB)
        texts = [()]
        for count in range(5):
            document.insert_tokens(count, ("a",))
            texts.append(document.text())
            self.check_refused(document, document.redo, NothingToRedo)
        for _ in range(2):
            for count in range(4, -1, -1):
                document.undo()
                self.check(document, texts[count], count, 5 - count)
            self.check_refused(document, document.undo, NothingToUndo)
            for count in range(1, 6):
                document.redo()
                self.check(document, texts[count], count, 5 - count)
            self.check_refused(document, document.redo, NothingToRedo)

    def test_a_new_step_discards_what_could_be_redone(self):
        for call in (lambda document: document.insert_tokens(0, ("z",)), lambda document: document.delete_range(0, 0),
                     lambda document: document.edit(lambda inner: inner.insert_tokens(0, ())),
                     lambda document: document.fix(0, 0, ())):
            document = Document(AB, text=("a",))
            document.insert_tokens(0, ("a", "b"))
            document.insert_tokens(0, ("a", "b"))
            document.undo()
            document.undo()
            self.check(document, ("a",), 0, 2)
            call(document)
            self.assertEqual((document.undo_steps(), document.redo_steps()), (1, 0))
            self.check_refused(document, document.redo, NothingToRedo)
            document.undo()
            self.assertEqual(document.text(), ("a",))

    def test_histories(self):
        for history in (0, 1, 2, 50, 51):
            document = Document(AB, history=history)
            texts = [()]
            for count in range(1, 56):
                document.insert_tokens(0, ("a",))
                texts.append(document.text())
                self.check(document, texts[count], min(count, history), 0)
            for count in range(1, history + 1):
                document.undo()
                self.check(document, texts[55 - count], history - count, count)
            self.check_refused(document, document.undo, NothingToUndo)
            for count in range(history - 1, -1, -1):
                document.redo()
                self.check(document, texts[55 - count], history - count, count)
            self.check_refused(document, document.redo, NothingToRedo)

    def test_the_history_is_50_where_none_is_passed(self):
        document = Document(AB)
        for count in range(60):
            document.insert_tokens(count, ("a",))
        self.assertEqual(document.undo_steps(), 50)
        for _ in range(50):
            document.undo()
        self.check(document, ("a",) * 10, 0, 50)

    def test_no_history(self):
        document = Document(AB, text=("a",), history=0)
        document.edit(lambda inner: inner.insert_tokens(1, ("b",)))
        self.check(document, ("a", "b"), 0, 0)
        self.check_refused(document, document.undo, NothingToUndo)


class EditTest(DocumentCase):

    def test_no_steps(self):
        document = Document(AB, text=TEXT)
        document.delete_range(0, 1)
        document.undo()
        self.assertEqual(document.edit(lambda inner: inner.text()), TEXT)
        self.check(document, TEXT, 0, 1)
        document.redo()
        self.check(document, TEXT[1:], 1, 0)

    def test_results(self):
        document = Document(AB)
        held = [1]
        self.assertIs(document.edit(lambda inner: held), held)
        self.assertIs(document.edit(function=lambda inner: None), None)
        self.assertIs(document.edit(lambda inner: inner), document)

    def test_one_step(self):
        document = Document(AB, text=TEXT)
        self.assertIs(document.edit(lambda inner: inner.insert_tokens(0, ("z",))), None)
        self.check(document, ("z",) + TEXT, 1, 0)
        document.undo()
        self.check(document, TEXT, 0, 1)

    def test_several_steps(self):
        def change(inner):
            inner.insert_tokens(0, ("b",))
            inner.delete_range(1, 3)
            inner.replace_range(1, 2, ("b", "a"))
            inner.fix(0, 0, ("a", "b", "a"))
            return inner.text()

        document = Document(AB, text=TEXT)
        document.insert_tokens(3, ("b",))
        self.assertEqual(document.edit(change), ("a", "b") * 3)
        self.check(document, ("a", "b") * 3, 2, 0)
        document.undo()
        self.check(document, ("a", "b", "a", "b"), 1, 1)
        document.undo()
        self.check(document, TEXT, 0, 2)
        document.redo()
        document.redo()
        self.check(document, ("a", "b") * 3, 2, 0)

    def test_steps_that_leave_the_text_the_same(self):
        def there_and_back(inner):
            inner.insert_tokens(0, ("z",))
            inner.delete_range(0, 1)

        for function in (there_and_back, lambda inner: inner.delete_range(0, 0)):
            document = Document(AB, text=TEXT)
            document.edit(function)
            self.check(document, TEXT, 1, 0)
            document.undo()
            self.check(document, TEXT, 0, 1)

    def test_a_function_that_raises(self):
        for error in (Stop("x"), KeyError("x"), BadText(1), Busy(), KeyboardInterrupt()):
            document = Document(AB, text=TEXT)
            document.insert_tokens(0, ("z",))
            document.insert_tokens(0, ("y",))
            document.undo()

            def change(inner):
                inner.delete_range(0, 3)
                inner.insert_tokens(0, ("b",))
                raise error

            with self.assertRaises(type(error)) as caught:
                document.edit(change)
            self.assertIs(caught.exception, error)
            self.check(document, ("z",) + TEXT, 1, 1)
            document.redo()
            self.check(document, ("y", "z") + TEXT, 2, 0)
            document.edit(lambda inner: inner.delete_range(0, 5))
            self.check(document, (), 3, 0)

    def test_a_function_that_raises_without_a_step(self):
        def change(inner):
            raise Stop()

        document = Document(AB)
        with self.assertRaises(Stop):
            document.edit(change)
        self.check(document, (), 0, 0)
        document.insert_tokens(0, ("a",))
        self.check(document, ("a",), 1, 0)

    def test_a_refused_step_that_is_caught(self):
        def change(inner):
            inner.insert_tokens(0, ("z",))
            for call in (lambda: inner.insert_tokens(9, ()), lambda: inner.fix(9, 0, ()), lambda: inner.insert_tokens(0, None)):
                with self.assertRaises(SpanError):
                    call()

        document = Document(AB, text=TEXT)
        document.edit(change)
        self.check(document, ("z",) + TEXT, 1, 0)

    def test_busy(self):
        calls = []

        def change(inner):
            for _ in range(2):
                for call in (inner.undo, inner.redo, lambda: inner.edit(lambda again: calls.append(again)),
                             lambda: inner.edit(None)):
                    self.check_refused(inner, call, Busy)
                inner.insert_tokens(0, ("z",))

        for steps in range(3):
            document = Document(AB, text=TEXT)
            for _ in range(steps):
                document.insert_tokens(0, ("y",))
            if steps == 2:
                document.undo()
            document.edit(change)
            self.assertEqual(document.text()[:2], ("z", "z"))
            self.assertEqual(document.undo_steps(), min(steps, 1) + 1)
            document.undo()
        self.assertEqual(calls, [])

    def test_busy_that_is_not_caught(self):
        def change(inner):
            inner.insert_tokens(0, ("z",))
            inner.undo()

        document = Document(AB, text=TEXT)
        with self.assertRaises(Busy):
            document.edit(change)
        self.check(document, TEXT, 0, 0)
        document.edit(lambda inner: inner.insert_tokens(0, ("z",)))
        document.undo()
        self.check(document, TEXT, 0, 1)

    def test_the_text_within(self):
        def change(inner):
            inner.insert_tokens(0, ("b",))
            self.assertEqual((inner.text(), len(inner), inner.spans(), inner.error_count()), (("b",), 1, ((0, 0),), 1))
            inner.delete_range(0, 1)
            self.assertEqual((inner.text(), len(inner), inner.spans(), inner.error_count()), ((), 0, (), 0))

        Document(AB).edit(change)

    def test_edits_behind_one_another(self):
        document = Document(AB, history=3)
        for count in range(5):
            document.edit(lambda inner: [inner.insert_tokens(0, ("a",)), inner.insert_tokens(0, ("b",))])
            self.check(document, ("b", "a") * (count + 1), min(count + 1, 3), 0)
        for count in range(3):
            document.undo()
        self.check(document, ("b", "a") * 2, 0, 3)


class CloneTest(DocumentCase):

    def test_steps_are_the_same_and_go_on_apart(self):
        document = Document(AB, history=3)
        for count in range(5):
            document.insert_tokens(count, ("a",))
        document.undo()
        twin = document.clone()
        self.assertIsInstance(twin, Document)
        self.assertIsNot(twin, document)
        self.assertEqual(twin, document)
        self.check(twin, ("a",) * 4, 2, 1)
        twin.redo()
        self.check(twin, ("a",) * 5, 3, 0)
        self.check(document, ("a",) * 4, 2, 1)
        document.undo()
        document.undo()
        self.check(document, ("a",) * 2, 0, 3)
        self.check(twin, ("a",) * 5, 3, 0)
        twin.insert_tokens(0, ("z",))
        self.check(twin, ("z",) + ("a",) * 5, 3, 0)
        for _ in range(3):
            document.redo()
        self.check(document, ("a",) * 5, 3, 0)
        for text in (("a",) * 5, ("a",) * 4, ("a",) * 3):
            twin.undo()
            self.assertEqual(twin.text(), text)
        self.check_refused(twin, twin.undo, NothingToUndo)

    def test_histories_of_clones(self):
        for history in (0, 1, 50, 51):
            twin = Document(AB, history=history).clone().clone()
            for count in range(60):
                twin.insert_tokens(0, ("a",))
            self.assertEqual(twin.undo_steps(), history)

    def test_a_clone_made_within_an_edit(self):
        twins = []

        def change(inner):
            inner.insert_tokens(0, ("x",))
            twins.append(inner.clone())
            inner.insert_tokens(0, ("y",))
            twins.append(inner.clone())
            # A clone is not within the edit.
            twins[1].undo()
            twins[1].redo()
            twins[1].undo()

        document = Document(AB, text=("a",))
        document.insert_tokens(1, ("b",))
        document.insert_tokens(2, ("a",))
        document.insert_tokens(3, ("b",))
        document.undo()
        document.edit(change)
        self.check(document, ("y", "x", "a", "b", "a"), 3, 0)
        self.check(twins[0], ("x", "a", "b", "a"), 2, 1)
        self.check(twins[1], ("a", "b"), 1, 2)
        twins[0].undo()
        self.check(twins[0], ("a", "b"), 1, 2)
        twins[0].undo()
        self.check(twins[0], ("a",), 0, 3)
        self.check_refused(twins[0], twins[0].undo, NothingToUndo)
        self.check(document, ("y", "x", "a", "b", "a"), 3, 0)
        document.undo()
        self.check(document, ("a", "b", "a"), 2, 1)

    def test_steps_of_a_clone_made_within_an_edit_are_done_again(self):
        twins = []

        def change(inner):
            inner.insert_tokens(0, ("x",))
            twins.append(inner.clone())

        document = Document(AB, text=("a",))
        document.insert_tokens(1, ("b",))
        document.insert_tokens(2, ("a",))
        document.undo()
        document.edit(change)
        twins[0].redo()
        self.check(twins[0], ("a", "b", "a"), 2, 0)
        twins[0].undo()
        self.check(twins[0], ("a", "b"), 1, 1)
        twins[0].undo()
        twins[0].redo()
        self.check(twins[0], ("a", "b"), 1, 1)

    def test_steps_and_edits_of_a_clone_made_within_an_edit(self):
        def change(inner):
            inner.insert_tokens(0, ("x",))
            twin = inner.clone()
            self.assertEqual(twin, inner)
            twin.edit(lambda own: own.insert_tokens(0, ("w",)))
            self.check(twin, ("w", "x", "a"), 1, 0)
            twin.undo()
            self.check(twin, ("x", "a"), 0, 1)
            self.assertEqual(inner.text(), ("x", "a"))
            self.check_refused(inner, inner.undo, Busy)

        document = Document(AB, text=("a",))
        document.edit(change)
        self.check(document, ("x", "a"), 1, 0)

    def test_a_clone_made_within_an_edit_that_fails(self):
        twins = []

        def change(inner):
            inner.insert_tokens(0, ("x",))
            twins.append(inner.clone())
            raise Stop()

        document = Document(AB, text=("a",))
        with self.assertRaises(Stop):
            document.edit(change)
        self.check(document, ("a",), 0, 0)
        self.check(twins[0], ("x", "a"), 0, 0)

    def test_clones_behind_edits(self):
        document = Document(AB, text=("a",))
        document.edit(lambda inner: [inner.insert_tokens(0, ("x",)), inner.insert_tokens(0, ("y",))])
        twin = document.clone()
        twin.undo()
        self.check(twin, ("a",), 0, 1)
        self.check(document, ("y", "x", "a"), 1, 0)
        document.undo()
        twin.redo()
        self.check(twin, ("y", "x", "a"), 1, 0)
        self.check(document, ("a",), 0, 1)


class EqualTest(unittest.TestCase):

    def check(self, one, other, expected):
        self.assertIs(one == other, expected)
        self.assertIs(other == one, expected)
        self.assertIs(one != other, not expected)

    def test_grammars_and_texts(self):
        equal = Grammar(("sequence", token("a"), token("b")))
        self.check(Document(AB), Document(equal), True)
        self.check(Document(AB, text=TEXT), Document(equal, text=("a", "b", "a")), True)
        self.check(Document(AB), Document(LETS), False)
        self.check(Document(AB, text=TEXT), Document(AB, text=TEXT[1:]), False)
        self.check(Document(AB, text=TEXT), Document(AB), False)
        self.check(Document(NESTS, text=TEXT), Document(AB, text=TEXT), False)
        # The same texts are valid, but the grammars are not equal.
        self.check(Document(Grammar(("repeat", token("a")))), Document(Grammar(token("a"))), False)

    def test_histories_and_steps_do_not_count(self):
        one, other = Document(AB, text=TEXT, history=0), Document(AB, history=9)
        other.insert_tokens(0, TEXT)
        self.check(one, other, True)
        other.undo()
        self.check(one, other, False)

    def test_other_values(self):
        for document in (Document(AB), Document(AB, text=TEXT)):
            for value in [*ODD_VALUES, AB, TEXT, (), object()]:
                self.check(document, value, False)


class RandomWalkTest(unittest.TestCase):
    """Steps by chance, and the same ones in lists of texts."""

    def test_as_lists_of_texts(self):
        chance = random.Random(113)
        for grammar, text in random_cases(114, 30, 3, 6):
            history = chance.choice((0, 1, 2, 5, 50))
            document = Document(grammar, text=text, history=history)
            done, undone = [], []
            for _ in range(40):
                kind = chance.choice(("replace", "replace", "undo", "undo", "redo", "edit", "clone"))
                if kind == "replace":
                    before = text
                    text = self.replace(chance, document, text)
                    done, undone = (done + [before])[max(len(done) + 1 - history, 0):], []
                elif kind == "edit":
                    before = text
                    fails = chance.random() < 0.3
                    count, text = self.edit(chance, document, text, chance.randint(0, 3), fails)
                    if fails:
                        text = before
                    elif count:
                        done, undone = (done + [before])[max(len(done) + 1 - history, 0):], []
                elif kind == "undo" and done:
                    document.undo()
                    undone.append(text)
                    text = done.pop()
                elif kind == "redo" and undone:
                    document.redo()
                    done.append(text)
                    text = undone.pop()
                elif kind == "clone":
                    document = document.clone()
                self.assertEqual(facts(document), (text, len(done), len(undone), len(text)))
                self.assertEqual(document.spans(), spans(grammar, text))
                self.assertEqual(document.error_count(), error_count(grammar, text))

    def replace(self, chance, document, text):
        begin = chance.randint(0, len(text))
        stop = chance.randint(begin, min(begin + 3, len(text)))
        tokens = random_text(chance, document.grammar, 3)
        document.replace_range(begin, stop, tokens)
        return text[:begin] + tokens + text[stop:]

    def edit(self, chance, document, text, count, fails):
        """Take so many steps within an edit, which fails then or not."""
        def change(inner):
            found = text
            for _ in range(count):
                found = self.replace(chance, inner, found)
            if fails:
                raise Stop()
            return found

        if not fails:
            return count, document.edit(change)
        with self.assertRaises(Stop):
            document.edit(change)
        return count, text

    def test_long_texts(self):
        document = Document(NESTS, text=("o",) * 40 + ("c",) * 40)
        self.assertEqual(document.spans(), ())
        document.insert_tokens(40, ("a",) * 320)
        self.assertEqual((len(document), document.error_count()), (400, 0))
        document.delete_range(0, 1)
        self.assertEqual(document.error_count(), 1)
        copied = copy.copy(document.text())
        document.undo()
        document.redo()
        self.assertEqual(document.text(), copied)


if __name__ == "__main__":
    unittest.main()
