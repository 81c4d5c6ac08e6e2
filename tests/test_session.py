"""Point 23: sessions."""

import random
import unittest

from errorspans.documents import Document
from errorspans.errors import BadLine, BadRange, BadSource, NoError, NotAFix, NothingToRedo, NothingToUndo, SpanError
from errorspans.grammars import Grammar
from errorspans.reading import read_text
from errorspans.repairs import apply_repair, is_repair, repair
from errorspans.reports import report, show_report
from errorspans.session import Session
from errorspans.showing import show_grammar, show_text
from errorspans.solutions import count_solutions
from errorspans.spans import error_count, spans
from errorspans.windows import expected
from helpers import AB, LETS, NESTS, ODD_VALUES, check_arguments_stay, check_error_for_any_value, random_cases, random_text, token

SOURCE = "item = a b"
QUESTIONS = ("show", "count", "spans", "repair", "solutions", "expected 0")

# Lines that are none by their form; some of them would be refused for what they say, too.
NO_LINES = [
    "", " ", "  ", "\n", "Show", "SHOW", "shows", "sho", "a", "-", "ok", "help", "quit", "0", "show ", " show", "show show", "show 0",
    "show -", "show\n", "\nshow", "show\ncount", "count ", "count 0", "count a", " count", "spans ", "spans 0", "spans -", "undo ", " undo",
    "undo 1", "undo undo", "undo redo", "redo ", "redo 0", "repair ", "repair 0", "repair -", "solutions ", "solutions 0", "solution",
    "text", "text ", "text  a", "text a ", " text a", "text a  b", "text -  ", "text - a", "text a -", "text --", "text A", "text a B",
    "text a1", "text 0", "text abcdefghi", "text a\n", "text a\nb", "text\ta", "text $", "text ^ a", "text <x>", "text a,b", "text=a",
    "insert", "insert ", "insert 0", "insert 0 ", "insert a", "insert a 0", "insert -", "insert 0  a", "insert  0 a", "insert 0 a ",
    "insert 0 A", "insert 0 0", "insert 0 1 a", "insert 00 a", "insert 01 a", "insert 1000 a", "insert -1 a", "insert +1 a", "insert 1. a",
    "insert 1.0 a", "insert 1e1 a", "insert x1 a", "insert 0 - a", "insert \u0661 a", "insert \u00b2 a", "insert 1_0 a", "insert 0x1 a",
    "delete", "delete ", "delete 0", "delete 0 ", "delete 0  1", "delete  0 1", "delete 0 1 ", " delete 0 1", "delete 0 1 2",
    "delete 0 a", "delete a 0", "delete - -", "delete 0 -1", "delete -1 0", "delete 00 1", "delete 0 01", "delete 0 1000",
    "delete 1000 1000", "delete +0 1", "delete 0 1 -", "delete 0 \u0661", "delete 0-1", "delete 0,1",
    "fix", "fix ", "fix 0", "fix 0 0", "fix 0 0 ", "fix 0 a", "fix a 0 b", "fix 0 0  a", "fix 0  0 a", "fix  0 0 a", "fix 0 0 a ",
    "fix 00 0 a", "fix 0 00 a", "fix 0 0 A", "fix 0 0 0", "fix 0 0 0 a", "fix -1 0 a", "fix 0 -1 a", "fix 1000 0 a", "fix 0 1000 a",
    "fix 0 0 a -", "fix 0 0 - a", "fix - 0 a", "fix 0 - a", "fix 0 \u00b2 a",
    "error", "error ", "error  0", "error 0 ", " error 0", "error 0 0", "error a", "error -", "error -1", "error +1", "error 00", "error 01",
    "error 1000", "error 0 a", "error 0000", "error \u0660", "error 0.", "errors 0",
    "expected", "expected ", "expected  0", "expected 0 ", "expected a", "expected -", "expected -1", "expected 00", "expected 1000",
    "expected 0 0", "expected 0 a", "expected \u0663", "expect 0",
]


def said(session, *lines):
    """Return the answer to the last line."""
    answers = [session.say(line) for line in lines]
    return answers[-1]


def facts(session):
    """Return what a session tells of its document."""
    return [session.say(line) for line in QUESTIONS]


class SessionCase(unittest.TestCase):

    def check_refused(self, session, words, error, **attributes):
        """Check that a line raises just this error with these values and changes nothing."""
        before = facts(session)
        with self.subTest(words=words):
            with self.assertRaises(SpanError) as caught:
                session.say(words)
            self.assertIs(type(caught.exception), error)
            self.assertEqual(vars(caught.exception), attributes)
            self.assertEqual(facts(session), before)


class SourceTest(SessionCase):

    def test_sources(self):
        session = Session(source="item = let name <list>\nlist lpar rpar = num { comma num }")
        self.assertEqual(said(session, "text let name lpar", "expected 3"), "num")
        for grammar in (AB, LETS, NESTS):
            self.assertEqual(facts(Session(show_grammar(grammar)))[:5], ["-", "0", "-", "-", "1"])

    def test_bad_sources(self):
        for source, row in (("", 0), ("item = A", 0), ("item =a", 0), ("item = a ", 0), ("item = a\n", 1), ("item = a\nx o = a", 1),
                            ("item = a\nx o c = a\ny p", 2), ("item = <x>", 1), ("item = a\ny o c = a\nx p q = a", 3), ("a", 0)):
            with self.subTest(source=source):
                with self.assertRaises(BadSource) as caught:
                    Session(source)
                self.assertEqual(vars(caught.exception), {"row": row})

    def test_values_that_are_no_strings(self):
        for value in ODD_VALUES:
            with self.assertRaises(BadSource) as caught:
                Session(value)
            self.assertEqual(vars(caught.exception), {"row": 0})

    def test_methods_stand_in_the_class(self):
        for name in ("say", "__init__"):
            self.assertIn(name, vars(Session))


class EditingLinesTest(SessionCase):

    def test_text(self):
        session = Session(SOURCE)
        for line, shown in (("text a a b", "a a b"), ("text -", "-"), ("text b", "b"), ("text abcdefgh", "abcdefgh"), ("text b", "b")):
            self.assertEqual(session.say(line), "ok")
            self.assertEqual(session.say("show"), shown)
        for shown in ("abcdefgh", "b", "-", "a a b", "-"):
            self.assertEqual(session.say("undo"), "ok")
            self.assertEqual(session.say("show"), shown)
        self.check_refused(session, "undo", NothingToUndo)

    def test_insert(self):
        session = Session(SOURCE)
        for line, shown in (("insert 0 b", "b"), ("insert 0 a a", "a a b"), ("insert 3 z", "a a b z"), ("insert 2 -", "a a b z"),
                            ("insert 1 x y", "a x y a b z")):
            self.assertEqual(said(session, line), "ok")
            self.assertEqual(session.say("show"), shown)
        self.assertEqual(said(session, "undo", "undo", "undo", "show"), "a a b")

    def test_delete(self):
        session = Session(SOURCE)
        session.say("text a b c d e")
        for line, shown in (("delete 0 1", "b c d e"), ("delete 1 3", "b e"), ("delete 2 2", "b e"), ("delete 0 2", "-"), ("delete 0 0", "-")):
            self.assertEqual(said(session, line), "ok")
            self.assertEqual(session.say("show"), shown)
        self.assertEqual(said(session, "undo", "undo", "undo", "undo", "show"), "b c d e")

    def test_undo_and_redo(self):
        session = Session(SOURCE)
        self.check_refused(session, "undo", NothingToUndo)
        self.check_refused(session, "redo", NothingToRedo)
        session.say("text a")
        session.say("insert 1 b")
        self.check_refused(session, "redo", NothingToRedo)
        self.assertEqual([said(session, "undo"), said(session, "show"), said(session, "undo"), said(session, "show")], ["ok", "a", "ok", "-"])
        self.check_refused(session, "undo", NothingToUndo)
        self.assertEqual([said(session, "redo"), said(session, "show"), said(session, "redo"), said(session, "show")], ["ok", "a", "ok", "a b"])
        self.check_refused(session, "redo", NothingToRedo)
        session.say("undo")
        session.say("delete 0 0")
        self.check_refused(session, "redo", NothingToRedo)

    def test_the_history_is_that_of_a_document(self):
        session = Session(SOURCE)
        for _ in range(55):
            session.say("insert 0 a")
        for _ in range(50):
            session.say("undo")
        self.assertEqual(session.say("show"), "a a a a a")
        self.check_refused(session, "undo", NothingToUndo)

    def test_fix(self):
        for line, shown in (("fix 0 0 -", "a a"), ("fix 0 1 b", "a b a"), ("fix 1 3 b", "a a a b"), ("fix 1 2 a b", "a a a b"), ("fix 1 2 -", "a a")):
            session = Session(SOURCE)
            session.say("text a a a")
            self.assertEqual(session.say(line), "ok")
            self.assertEqual([session.say("show"), session.say("count")], [shown, "1"])
            self.assertEqual(said(session, "undo", "show"), "a a a")

    def test_fix_refused(self):
        session = Session(SOURCE)
        self.check_refused(session, "fix 0 0 -", NoError, number=0)
        session.say("text a a a")
        self.check_refused(session, "fix 2 0 -", NoError, number=2)
        self.check_refused(session, "fix 999 999 a", NoError, number=999)
        self.check_refused(session, "fix 0 0 a", NotAFix, value=(0, ("a",)))
        self.check_refused(session, "fix 0 2 -", NotAFix, value=(2, ()))
        self.check_refused(session, "fix 1 1 b", NotAFix, value=(1, ("b",)))
        self.check_refused(session, "fix 1 4 b", NotAFix, value=(4, ("b",)))
        self.check_refused(session, "fix 1 999 b z", NotAFix, value=(999, ("b", "z")))

    def test_bad_ranges(self):
        session = Session(SOURCE)
        self.check_refused(session, "insert 1 a", BadRange, value=(1, 1))
        session.say("text a b a")
        session.say("undo")
        session.say("redo")
        self.check_refused(session, "insert 4 a b", BadRange, value=(4, 4))
        self.check_refused(session, "insert 999 -", BadRange, value=(999, 999))
        self.check_refused(session, "delete 0 4", BadRange, value=(0, 4))
        self.check_refused(session, "delete 4 4", BadRange, value=(4, 4))
        self.check_refused(session, "delete 2 1", BadRange, value=(2, 1))
        self.check_refused(session, "delete 999 0", BadRange, value=(999, 0))
        self.check_refused(session, "expected 4", BadRange, value=(0, 4))
        self.check_refused(session, "expected 999", BadRange, value=(0, 999))

    def test_what_is_refused_keeps_what_can_be_redone(self):
        session = Session(SOURCE)
        session.say("text a a a")
        session.say("undo")
        for line in ("insert 5 a", "delete 0 1", "fix 0 0 -", "error 0", "expected 1", "undo", "insert 0 A", "show ", None):
            with self.assertRaises(SpanError):
                session.say(line)
        self.assertEqual(said(session, "redo", "show"), "a a a")


class AskingLinesTest(SessionCase):

    def test_empty_text(self):
        session = Session(SOURCE)
        self.assertEqual(facts(session), ["-", "0", "-", "-", "1", "$ a"])
        self.check_refused(session, "error 0", NoError, number=0)
        self.check_refused(session, "expected 1", BadRange, value=(0, 1))

    def test_text_without_errors(self):
        session = Session(SOURCE)
        session.say("text a b a b")
        self.assertEqual(facts(session), ["a b a b", "0", "-", "-", "1", "$ a"])
        self.assertEqual([session.say("expected 1"), session.say("expected 4")], ["b", "$ a"])

    def test_one_error(self):
        session = Session(SOURCE)
        session.say("text a a b")
        self.assertEqual(facts(session)[:3] + [session.say("solutions"), session.say("error 0")],
                         ["a a b", "1", "0-1", "2", "0-1: expected b"])
        self.check_refused(session, "error 1", NoError, number=1)
        self.check_refused(session, "error 999", NoError, number=999)

    def test_several_errors(self):
        session = Session(SOURCE)
        session.say("text b a")
        self.assertEqual(facts(session)[:3] + [session.say("solutions")], ["b a", "2", "0-0 1-2", "2"])
        self.assertEqual([session.say("error 0"), session.say("error 1")], ["0: expected $, a", "1-2: expected b"])

    def test_expected(self):
        session = Session(SOURCE)
        session.say("text a b z a")
        self.assertEqual([session.say(f"expected {count}") for count in range(5)], ["$ a", "b", "$ a", "-", "-"])
        self.check_refused(session, "expected 5", BadRange, value=(0, 5))

    def test_repair(self):
        session = Session(SOURCE)
        session.say("text z a b")
        self.assertEqual(session.say("repair"), "0: -")
        session.say("text z a b z z")
        self.assertEqual(session.say("repair"), "0: -, 3: -, 4: -")
        session.say("text a b a")
        place, tokens = repair(AB, ("a", "b", "a"))[0]
        self.assertEqual(session.say("repair"), f"{place}: {show_text(tokens)}")

    def test_answers_behind_changes_undo_and_redo(self):
        chance = random.Random(171)
        for grammar, text in random_cases(172, 50, 3, 7):
            session, document = Session(show_grammar(grammar)), Document(grammar)
            for _ in range(12):
                self.change(chance, session, document)
                with self.subTest(item=grammar.item, blocks=grammar.blocks, text=document.text()):
                    self.check_answers(session, grammar, document.text())

    def change(self, chance, session, document):
        """Change both in the same way."""
        size = len(document)
        tokens = random_text(chance, document.grammar, 4)
        kind = chance.choice(("text", "insert", "insert", "delete", "fix", "undo", "redo"))
        if kind == "text":
            self.assertEqual(session.say("text " + show_text(tokens)), "ok")
            document.replace_range(0, size, tokens)
        elif kind == "insert":
            at = chance.randint(0, size)
            self.assertEqual(session.say(f"insert {at} {show_text(tokens)}"), "ok")
            document.insert_tokens(at, tokens)
        elif kind == "delete":
            begin = chance.randint(0, size)
            stop = chance.randint(begin, size)
            self.assertEqual(session.say(f"delete {begin} {stop}"), "ok")
            document.delete_range(begin, stop)
        elif kind == "fix":
            self.check_same(session, document, chance.randint(0, 1), chance.randint(0, size), tokens)
        elif kind == "undo" and document.undo_steps():
            self.assertEqual(session.say("undo"), "ok")
            document.undo()
        elif kind == "redo" and document.redo_steps():
            self.assertEqual(session.say("redo"), "ok")
            document.redo()

    def check_same(self, session, document, number, place, tokens):
        """Check that a fix is taken by both, or refused by both in the same way."""
        try:
            document.fix(number, place, tokens)
        except SpanError as error:
            self.check_refused(session, f"fix {number} {place} {show_text(tokens)}", type(error), **vars(error))
        else:
            self.assertEqual(session.say(f"fix {number} {place} {show_text(tokens)}"), "ok")

    def check_answers(self, session, grammar, text):
        found = spans(grammar, text)
        self.assertEqual(read_text(session.say("show")), text)
        self.assertEqual(session.say("count"), str(error_count(grammar, text)))
        self.assertEqual(session.say("spans"), " ".join([f"{least}-{greatest}" for least, greatest in found]) or "-")
        self.assertEqual(session.say("solutions"), str(count_solutions(grammar, text)))
        for number in range(len(found)):
            self.assertEqual(session.say(f"error {number}"), show_report(report(grammar, text, number)))
        self.check_refused(session, f"error {len(found)}", NoError, number=len(found))
        shown = session.say("repair")
        self.assertEqual(shown, ", ".join([f"{place}: {show_text(tokens)}" for place, tokens in repair(grammar, text)]) or "-")
        self.assertEqual(shown.count(":"), len(found))
        for count in range(len(text) + 1):
            words = expected(grammar, ("^",) + text[:count])
            self.assertEqual(session.say(f"expected {count}"), " ".join(words) or "-")
        self.check_refused(session, f"expected {len(text) + 1}", BadRange, value=(0, len(text) + 1))

    def test_repairs_read_back(self):
        for grammar, text in random_cases(173, 40, 4, 8):
            session = Session(show_grammar(grammar))
            session.say("text " + show_text(text))
            shown = session.say("repair")
            parts = [] if shown == "-" else [part.split(": ") for part in shown.split(", ")]
            changes = tuple([(int(place), read_text(tokens)) for place, tokens in parts])
            self.assertIs(is_repair(grammar, text, changes), True)
            self.assertEqual(len(changes), error_count(grammar, text))
            session.say("text " + show_text(apply_repair(text, changes)))
            self.assertEqual(session.say("count"), "0")

    def test_texts_of_400_tokens(self):
        chance = random.Random(174)
        for grammar in (AB, LETS, NESTS):
            text = tuple([chance.choice(grammar.tokens()) for _ in range(400)])
            session = Session(show_grammar(grammar))
            self.assertEqual(session.say("text " + " ".join(text)), "ok")
            found = spans(grammar, text)
            self.assertEqual(session.say("show"), " ".join(text))
            self.assertEqual(session.say("count"), str(len(found)))
            self.assertEqual(session.say("spans"), " ".join([f"{least}-{greatest}" for least, greatest in found]))
            self.assertEqual(session.say("solutions"), str(count_solutions(grammar, text)))
            self.assertEqual(session.say(f"error {len(found) - 1}"), show_report(report(grammar, text, len(found) - 1)))
            self.assertEqual(session.say("insert 400 a"), "ok")
            self.assertEqual(session.say("delete 400 401"), "ok")
            self.assertIn(session.say("expected 400"), ("-", " ".join(expected(grammar, ("^",) + text))))
            self.check_refused(session, "insert 401 a", BadRange, value=(401, 401))
        session = Session(show_grammar(NESTS))
        session.say("text " + "o " * 40 + "a " * 320 + " ".join(["c"] * 40))
        self.assertEqual(facts(session)[1:5], ["0", "-", "-", "1"])
        self.assertEqual(session.say("expected 40"), "a c o p")

    def test_sessions_are_apart(self):
        one, other = Session(SOURCE), Session(SOURCE)
        one.say("text a a a")
        self.assertEqual([other.say("show"), one.say("show")], ["-", "a a a"])

    def test_by_name_and_arguments_stay(self):
        session = Session(SOURCE)
        self.assertEqual(session.say(line="count"), "0")
        check_arguments_stay(self, session.say, "spans")
        check_arguments_stay(self, lambda source: Session(source).say("show"), SOURCE)


class BadLineTest(SessionCase):

    def test_lines_that_are_none_by_their_form(self):
        for text in ("text -", "text a a a", "text a b"):
            session = Session(SOURCE)
            session.say(text)
            for line in NO_LINES:
                self.check_refused(session, line, BadLine, line=line)

    def test_any_value(self):
        session = Session(SOURCE)
        session.say("text a a")
        others = [*ODD_VALUES, ("show",), ["show"], {"show": "show"}, ("text", "a"), b"show".hex(), ("undo",)]
        check_error_for_any_value(self, session.say, BadLine, "line", others)
        self.assertEqual([session.say("show"), session.say("undo"), session.say("show")], ["a a", "ok", "-"])

    def test_ahead_of_all_else(self):
        session = Session(SOURCE)
        for line in ("insert 9 A", "delete 9 8 7", "fix 9 9 B", "undo 1", "redo ", "error 9 9", "expected 9 ", "delete 9 01"):
            self.check_refused(session, line, BadLine, line=line)

    def test_numbers_of_one_to_three_figures(self):
        session = Session(SOURCE)
        session.say("text " + " ".join(["a"] * 400))
        for number in (0, 1, 9, 10, 90, 99, 100, 399, 400):
            self.assertEqual(session.say(f"insert {number} -"), "ok")
        for number in (401, 500, 999):
            self.check_refused(session, f"insert {number} -", BadRange, value=(number, number))
        for number in ("1000", "0001", "007", "00", "4 00", "4000"):
            self.check_refused(session, f"insert {number} -", BadLine, line=f"insert {number} -")

    def test_words_of_lines_as_tokens(self):
        session = Session("item = text undo show")
        self.assertEqual(said(session, "text text undo show", "count"), "0")
        self.assertEqual(said(session, "insert 0 show", "show"), "show text undo show")
        self.assertEqual(said(session, "expected 0"), "$ text")


class OtherGrammarsTest(unittest.TestCase):

    def test_blocks(self):
        session = Session(show_grammar(NESTS))
        self.assertEqual(said(session, "text o p b c q", "spans"), "2-3")
        self.assertEqual(said(session, "error 0"), "2-3: expected o, q")
        self.assertEqual(said(session, "fix 0 3 q c o c p b", "count"), "0")

    def test_a_grammar_without_valid_items(self):
        session = Session("item = <x>\nx o c = <x>")
        self.assertEqual(said(session, "text o c", "spans"), "0-0 1-1")
        self.assertEqual(said(session, "repair"), "0: -, 1: -")
        self.assertEqual(said(session, "expected 0"), "$")

    def test_grammars_are_read(self):
        grammar = Grammar(("sequence", token("a"), ("optional", token("b"))))
        session = Session("item = a [ b ]")
        self.assertEqual(said(session, "text a a b", "count"), str(error_count(grammar, ("a", "a", "b"))))


if __name__ == "__main__":
    unittest.main()
