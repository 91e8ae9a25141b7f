"""Each listed function stands in its file under its name, with the listed arguments."""
import importlib
import inspect
import unittest

INTERFACE = {
    "integers": {"divisors": "n", "divisor_sum": "n k one other"},
    "signs": {"is_sign": "thing", "sign_at": "sign n", "sign_of": "m", "joined_sign": "one other"},
    "bernoulli": {"bernoulli": "k sign"},
}


class InterfaceTest(unittest.TestCase):
    def test_names_and_arguments(self):
        for file, functions in INTERFACE.items():
            module = importlib.import_module("firstterms." + file)
            for name, arguments in functions.items():
                function = getattr(module, name)
                self.assertTrue(inspect.isfunction(function), name)
                self.assertEqual(function.__module__, "firstterms." + file, name)
                parameters = inspect.signature(function).parameters
                self.assertEqual(list(parameters), arguments.split(), name)
                for parameter in parameters.values():
                    self.assertEqual(parameter.kind, parameter.POSITIONAL_OR_KEYWORD, name)
                    self.assertIs(parameter.default, parameter.empty, name)
