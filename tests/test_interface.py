"""The interface: each name is there, in its module, with its arguments under their names."""

import importlib
import inspect
import unittest

ARGUMENTS = {
    "sums": {"sums": ["row"], "back": ["row"]},
    "woven": {"woven": ["one", "other"], "tied": ["one", "other"], "halved": ["row", "step", "half"]},
    "straight": {"straight": ["steps", "choice", "turned"], "distance": ["one", "other"], "nearest": ["row"]},
    "flat": {"is_flat": ["row"], "flat": ["steps"]},
    "notes": {"shown": ["row"], "read": ["text"]},
}


class TestInterface(unittest.TestCase):
    def test_the_functions_and_their_arguments(self):
        for module, functions in ARGUMENTS.items():
            found = importlib.import_module(f"signsums.{module}")
            for name, arguments in functions.items():
                with self.subTest(module=module, name=name):
                    parameters = inspect.signature(getattr(found, name)).parameters
                    self.assertEqual(list(parameters), arguments)
                    for parameter in parameters.values():
                        self.assertIs(parameter.default, parameter.empty)
                        self.assertIs(parameter.kind, parameter.POSITIONAL_OR_KEYWORD)

    def test_the_modules_are_not_hidden_by_their_functions(self):
        # Four modules have a function of their own name; the package binds the module.
        for name in ("sums", "woven", "straight", "flat"):
            importlib.import_module(f"signsums.{name}")
            self.assertTrue(inspect.ismodule(getattr(importlib.import_module("signsums"), name)))


if __name__ == "__main__":
    unittest.main()
