"""The names and arguments of the document's interface, as they stand there."""

import importlib
import inspect
import unittest

FUNCTIONS = {
    "bits": {
        "are_bits": ["thing"],
        "bits_of": ["number", "width"],
        "number_of": ["bits"],
        "width_for": ["many"],
    },
    "windows": {
        "rest_of": ["number", "width"],
        "windowed": ["least", "rest", "width"],
        "around": ["w", "base", "below", "rest", "width"],
        "narrowest": ["w", "below", "bases", "value"],
        "tightest": ["w", "offsets"],
    },
    "shapes": {
        "is_shape": ["thing"],
        "is_head": ["shape", "thing"],
        "expected": ["shape", "place", "former", "ahead", "more"],
        "check_of": ["shape", "number", "head"],
    },
    "forms": {
        "is_form": ["shape", "thing"],
        "pieces": ["shape", "form", "head"],
        "size_of": ["shape", "form"],
        "opened": ["shape", "form", "bits", "former", "more"],
        "sure": ["shape", "form", "head", "formers"],
    },
    "doubts": {
        "doubt": ["shape", "form", "head", "formers"],
        "shows_doubt": ["shape", "form", "head", "formers", "thing"],
    },
    "pacts": {
        "is_pact": ["thing"],
    },
    "letters": {
        "letter_size": ["pact", "at"],
        "whole_letter": ["pact", "number", "head"],
        "pressed_letter": ["pact", "at", "number", "head"],
        "parted": ["pact", "letter"],
    },
    "readers": {
        "word_of": ["told"],
    },
    "streams": {
        "unbundled": ["pacts", "bits"],
    },
    "tables": {
        "costs": ["pact", "heads"],
        "proposed": ["shape", "heads", "reach", "count"],
        "least_table": ["pact", "heads", "most"],
    },
    "texts": {
        "show_pact": ["pact"],
        "read_pact": ["text"],
        "show_head": ["head"],
        "read_head": ["shape", "text"],
    },
}

CLASSES = {
    "pressers": {
        "Presser": {
            "__init__": ["pact"],
            "press": ["head"],
            "heard": ["word"],
            "sent": [],
            "known": [],
            "formers": ["reach"],
            "why_not": ["head", "at"],
            "usable": ["head"],
        },
    },
    "readers": {
        "Reader": {
            "__init__": ["pact"],
            "read": ["letter"],
            "forget": [],
            "top": [],
            "kept": [],
        },
    },
    "roads": {
        "Road": {
            "__init__": ["pact"],
            "do": ["deed"],
            "letters": [],
            "words": [],
            "heads": [],
            "top": [],
            "kept": [],
            "known": [],
        },
    },
    "streams": {
        "Sender": {
            "__init__": ["pacts"],
            "press": ["stream", "head"],
            "heard": ["stream", "word"],
        },
        "Receiver": {
            "__init__": ["pacts"],
            "read": ["bits"],
            "forget": ["stream"],
        },
    },
    "desk": {
        "Desk": {
            "__init__": ["text"],
            "say": ["line"],
        },
    },
}


def found(module, name):
    return getattr(importlib.import_module("shorthead." + module), name)


class Interface(unittest.TestCase):
    def takes(self, function, arguments):
        parameters = inspect.signature(function).parameters.values()
        self.assertEqual([parameter.name for parameter in parameters], arguments)
        for parameter in parameters:
            self.assertEqual(parameter.kind, inspect.Parameter.POSITIONAL_OR_KEYWORD)

    def test_functions_and_their_arguments(self):
        for module, functions in FUNCTIONS.items():
            for name, arguments in functions.items():
                with self.subTest(f"{module}.{name}"):
                    self.takes(found(module, name), arguments)

    def test_classes_their_methods_and_arguments(self):
        for module, classes in CLASSES.items():
            for name, methods in classes.items():
                for method, arguments in methods.items():
                    with self.subTest(f"{module}.{name}.{method}"):
                        self.takes(getattr(found(module, name), method), ["self"] + arguments)


if __name__ == "__main__":
    unittest.main()
