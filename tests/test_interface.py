"""The names and arguments of the document's interface, as they stand there."""

import importlib
import inspect
import unittest

FUNCTIONS = {
    "bits": {
        "are_bits": ["thing"],
        "bits_of": ["number", "width"],
        "number_of": ["bits"],
        "width_for": ["many"],
    },
    "windows": {
        "rest_of": ["number", "width"],
        "windowed": ["least", "rest", "width"],
        "around": ["w", "base", "below", "rest", "width"],
        "narrowest": ["w", "below", "bases", "value"],
        "tightest": ["w", "offsets"],
    },
    "shapes": {
        "is_shape": ["thing"],
        "is_head": ["shape", "thing"],
        "expected": ["shape", "place", "former", "ahead", "more"],
        "check_of": ["shape", "number", "head"],
    },
    "forms": {
        "is_form": ["shape", "thing"],
        "pieces": ["shape", "form", "head"],
        "size_of": ["shape", "form"],
        "opened": ["shape", "form", "bits", "former", "more"],
        "sure": ["shape", "form", "head", "formers"],
    },
    "doubts": {
        "doubt": ["shape", "form", "head", "formers"],
        "shows_doubt": ["shape", "form", "head", "formers", "thing"],
    },
    "pacts": {
        "is_pact": ["thing"],
    },
}


class Interface(unittest.TestCase):
    def test_functions_and_their_arguments(self):
        for module, functions in FUNCTIONS.items():
            for name, arguments in functions.items():
                with self.subTest(f"{module}.{name}"):
                    function = getattr(importlib.import_module("shorthead." + module), name)
                    parameters = inspect.signature(function).parameters.values()
                    self.assertEqual([parameter.name for parameter in parameters], arguments)
                    for parameter in parameters:
                        self.assertEqual(parameter.kind, inspect.Parameter.POSITIONAL_OR_KEYWORD)


if __name__ == "__main__":
    unittest.main()
