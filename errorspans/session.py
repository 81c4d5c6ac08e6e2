"""Sessions: a document that is edited and asked by lines."""

from errorspans.documents import Document
from errorspans.errors import BadLine, BadRange
from errorspans.reading import read_grammar, text_of
from errorspans.repairs import repair
from errorspans.reports import report, show_report
from errorspans.showing import NOTHING, show_text
from errorspans.solutions import count_solutions
from errorspans.tokens import START
from errorspans.windows import expected

FIGURES = "0123456789"
MOST_FIGURES = 3
DONE = "ok"


# Each of these answers one kind of line: values are the numbers and the text that stand behind its first word.
def say_text(document, values):
    document.replace_range(0, len(document), values[0])
    return DONE


def say_insert(document, values):
    document.insert_tokens(values[0], values[1])
    return DONE


def say_delete(document, values):
    document.delete_range(values[0], values[1])
    return DONE


def say_fix(document, values):
    document.fix(values[0], values[1], values[2])
    return DONE


def say_undo(document, values):
    document.undo()
    return DONE


def say_redo(document, values):
    document.redo()
    return DONE


def say_show(document, values):
    return show_text(document.text())


def say_count(document, values):
    return str(document.error_count())


def say_spans(document, values):
    return listed([f"{least}-{greatest}" for least, greatest in document.spans()], " ")


def say_error(document, values):
    return show_report(report(document.grammar, document.text(), values[0]))


def say_repair(document, values):
    changes = repair(document.grammar, document.text())
    return listed([f"{place}: {show_text(tokens)}" for place, tokens in changes], ", ")


def say_solutions(document, values):
    return str(count_solutions(document.grammar, document.text()))


def say_expected(document, values):
    count = values[0]
    if count > len(document):
        raise BadRange((0, count))
    return listed(expected(document.grammar, (START,) + document.text()[:count]), " ")


# By the first word of a line: how many numbers follow, and whether a text follows them.
FORMS = {
    "text": (0, True),
    "insert": (1, True),
    "delete": (2, False),
    "fix": (2, True),
    "undo": (0, False),
    "redo": (0, False),
    "show": (0, False),
    "count": (0, False),
    "spans": (0, False),
    "error": (1, False),
    "repair": (0, False),
    "solutions": (0, False),
    "expected": (1, False),
}

ACTIONS = {
    "text": say_text,
    "insert": say_insert,
    "delete": say_delete,
    "fix": say_fix,
    "undo": say_undo,
    "redo": say_redo,
    "show": say_show,
    "count": say_count,
    "spans": say_spans,
    "error": say_error,
    "repair": say_repair,
    "solutions": say_solutions,
    "expected": say_expected,
}


class Session:
    """Holds a document of the grammar that the source writes."""

    def __init__(self, source):
        self.document = Document(read_grammar(source))

    def say(self, line):
        """Do what any value, as a line, says; return the answer."""
        words = line.split(" ") if isinstance(line, str) else [""]
        values = values_of(words)
        if values is None:
            raise BadLine(line)
        action = ACTIONS[words[0]]
        return action(self.document, values)


def values_of(words):
    """Return the list of the numbers and the text behind the first word of a line, None if they make no line."""
    if words[0] not in FORMS:
        return None
    count, has_text = FORMS[words[0]]
    numbers = words[1:count + 1]
    rest = words[count + 1:]
    if len(numbers) < count or not all([is_number(word) for word in numbers]):
        return None
    values = [int(word) for word in numbers]
    if not has_text:
        return None if rest else values
    tokens = text_of(" ".join(rest))
    return None if tokens is None else values + [tokens]


def is_number(word):
    """Return whether a word is a number of not too many figures, without a 0 ahead."""
    if not 1 <= len(word) <= MOST_FIGURES or not all([figure in FIGURES for figure in word]):
        return False
    return word == "0" or word[0] != "0"


def listed(parts, sign):
    """Return the parts with the sign between, or what is written for none."""
    return sign.join(parts) if parts else NOTHING
