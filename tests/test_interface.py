"""The interface: every name of the document, its arguments, and by which way they are passed."""

import importlib
import inspect
import unittest

NAMES = {
    "tokens": {"is_token": "value"},
    "expressions": {"is_expression": "value", "leaves": "expression", "next_leaves": "expression number",
                    "may_end": "expression number"},
    "grammars": {"Grammar": "item * blocks", "mirrored": "grammar"},
    "states": {"live_states": "grammar", "followers": "grammar state", "can_end": "grammar state"},
    "validity": {"is_valid": "grammar text", "completion": "grammar text"},
    "scanner": {"Scanner": "grammar * at_start"},
    "windows": {"is_window": "value", "is_good": "grammar window", "expected": "grammar window", "context": "grammar window",
                "shows_context": "grammar window value"},
    "conflicts": {"window_at": "text begin stop", "reach": "grammar text begin", "conflicts": "grammar text"},
    "spans": {"error_count": "grammar text", "spans": "grammar text", "latest": "grammar text", "earliest": "grammar text"},
    "solutions": {"is_solution": "grammar text value", "count_solutions": "grammar text",
                  "solution_at": "grammar text number"},
    "witnesses": {"witness": "grammar text", "is_witness": "grammar text value"},
    "refutations": {"refutation": "grammar window", "shows_refutation": "grammar window value"},
    "repairs": {"apply_repair": "text changes", "is_repair": "grammar text value", "repair": "grammar text",
                "repair_at": "grammar text places"},
    "fixes": {"is_fix": "grammar text place tokens", "fix": "grammar text place", "quick_fixes": "grammar text number"},
    "gaps": {"gap_count": "grammar text", "gap_spans": "grammar text", "is_gap_solution": "grammar text value",
             "insertions": "grammar text", "apply_insertions": "text changes"},
    "reporter": {"Reporter": "grammar"},
    "documents": {"Document": "grammar * text history"},
    "longtexts": {"long_error_count": "grammar pieces", "long_span": "grammar pieces number"},
    "comparing": {"difference": "one other", "unlike_text": "one other"},
    "showing": {"show_expression": "expression", "show_grammar": "grammar", "show_text": "text"},
    "reading": {"read_expression": "source", "read_grammar": "source", "read_text": "source"},
    "reports": {"report": "grammar text number", "show_report": "found"},
    "session": {"Session": "source"},
}
METHODS = {
    "Grammar": {"tokens": "", "block": "name", "__eq__": None},
    "Scanner": {"feed": "value", "is_alive": "", "states": "", "depth": "", "expected": "", "clone": ""},
    "Reporter": {"feed": "token", "finish": "", "places": "", "expected": "", "__len__": None},
    "Document": {"replace_range": "begin stop tokens", "insert_tokens": "at tokens", "delete_range": "begin stop",
                 "fix": "number place tokens", "undo": "", "redo": "", "edit": "function", "text": "", "undo_steps": "",
                 "redo_steps": "", "spans": "", "error_count": "", "clone": "", "__eq__": None, "__len__": None},
    "Session": {"say": "line"},
}
CONSTANTS = {("tokens", "START"): "^", ("tokens", "END"): "$", ("documents", "HISTORY"): 50}
DEFAULTS = {("Grammar", "blocks"): (), ("Scanner", "at_start"): False, ("Document", "text"): (), ("Document", "history"): 50}


def named(module, name):
    return getattr(importlib.import_module("errorspans." + module), name)


def told_parameters(function):
    """Return the names of the parameters, with a star ahead of those that are passed by name only."""
    found = []
    for parameter in inspect.signature(function).parameters.values():
        if parameter.kind is parameter.KEYWORD_ONLY and "*" not in found:
            found.append("*")
        found.append(parameter.name)
    return found


class InterfaceTest(unittest.TestCase):

    def test_names_and_arguments(self):
        for module, names in NAMES.items():
            for name, parameters in names.items():
                with self.subTest(module=module, name=name):
                    self.assertEqual(told_parameters(named(module, name)), parameters.split())

    def test_methods_stand_in_their_classes(self):
        for module, names in NAMES.items():
            for name in set(names) & set(METHODS):
                for method, parameters in METHODS[name].items():
                    with self.subTest(name=name, method=method):
                        self.assertIn(method, vars(named(module, name)))
                        if parameters is not None:
                            found = told_parameters(getattr(named(module, name), method))
                            self.assertEqual(found[1:], parameters.split())

    def test_constants(self):
        for (module, name), value in CONSTANTS.items():
            self.assertEqual(named(module, name), value)

    def test_defaults(self):
        found = {}
        for module, names in NAMES.items():
            for name in names:
                for parameter in inspect.signature(named(module, name)).parameters.values():
                    if parameter.default is not parameter.empty:
                        found[name, parameter.name] = parameter.default
        self.assertEqual(found, DEFAULTS)


if __name__ == "__main__":
    unittest.main()
