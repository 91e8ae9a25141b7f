"""Each listed function stands in its file under its name, with the listed arguments."""
import importlib
import inspect
import unittest

from firstterms.desks import Desk

INTERFACE = {
    "integers": {"divisors": "n", "divisor_sum": "n k one other"},
    "signs": {"is_sign": "thing", "sign_at": "sign n", "sign_of": "m", "joined_sign": "one other"},
    "bernoulli": {"bernoulli": "k sign"},
    "beginnings": {
        "is_beginning": "thing", "term_at": "beginning n", "added": "one other", "multiplied": "one other",
        "times": "beginning number", "power": "beginning k", "spread": "beginning d", "every": "beginning d",
        "twisted": "beginning sign", "shifted": "beginning s", "first_apart": "one other",
    },
    "products": {
        "is_product": "thing", "start_of": "product", "product_weight": "product", "product_terms": "product many",
        "does_fit": "product level", "product_level": "product", "product_sign": "product",
        "joined_product": "one other", "undone_product": "product", "turned_product": "product level",
        "spread_product": "product t",
    },
    "choices": {"choices": "product n most", "choice_sum": "product n"},
    "toldrows": {
        "five_cornered": "many", "cubes": "many", "squares": "many", "turned_squares": "many", "triangles": "many",
    },
    "edges": {"index_of": "level", "edges_of": "level"},
    "orders": {
        "order_at": "level product c", "orders_of": "level product", "judge_poles": "level product",
        "poles_hold": "level product thing", "by_orders": "level orders",
    },
    "divisorsums": {
        "is_divisor_piece": "thing", "sum_terms": "divisor_piece many", "sum_level": "divisor_piece",
        "sum_sign": "divisor_piece", "sum_first": "divisor_piece",
    },
    "forms": {
        "is_form": "thing", "value_at": "form x", "determinant_of": "form", "form_level": "form", "form_sign": "form",
        "partner_form": "form", "beside": "one other", "times_form": "form t", "squares_form": "m",
        "changed_form": "form table",
    },
    "ways": {"ways": "form n", "all_ways": "form n most", "form_terms": "form many"},
    "pieces": {
        "is_piece": "thing", "piece_weight": "piece", "piece_level": "piece", "piece_sign": "piece",
        "piece_order": "piece level c",
    },
    "blends": {
        "is_blend": "thing", "blend_weight": "blend", "blend_level": "blend", "blend_sign": "blend", "lowest": "blend",
        "is_smooth": "blend", "blend_terms": "blend first many", "scaled": "blend number",
        "added_blends": "one other", "spread_blend": "blend t",
    },
    "equal": {
        "place_of": "blend", "place_of_two": "one other", "judge_nought": "blend", "nought_holds": "blend thing",
        "judge_equal": "one other", "equal_holds": "one other thing",
    },
    "rowproducts": {
        "place_of_three": "one other due", "judge_times": "one other due", "times_hold": "one other due thing",
    },
    "within": {"judge_within": "blend blends", "within_holds": "blend blends thing"},
    "bases": {
        "genus_of": "level", "dimension": "level weight", "inner_dimension": "level weight",
        "judge_base": "level weight blends", "base_holds": "level weight blends thing",
    },
    "steps": {"step_terms": "blend prime many", "judge_step": "blend prime", "step_holds": "blend prime thing"},
    "stepping": {"judge_stepping": "blend", "stepping_holds": "blend thing", "far_term": "blend n"},
    "remainders": {
        "does_keep": "blend modulus", "remainder_at": "blend n modulus", "judge_divisible": "blend stride modulus",
        "divisible_holds": "blend stride modulus thing", "judge_alike": "one other modulus",
        "alike_holds": "one other modulus thing",
    },
    "texts": {"blend_text": "blend", "read_blend": "text"},
    "desks": {"read_desk": "text"},
}
METHODS = {
    "blends": "", "claims": "", "text": "", "undoable": "", "redoable": "", "is_same": "thing", "copied": "",
    "put": "name blend", "blend_named": "name", "change": "name blend", "drop": "name", "claim": "words",
    "release": "words", "undo": "", "redo": "",
}


class InterfaceTest(unittest.TestCase):
    def test_names_and_arguments(self):
        for file, functions in INTERFACE.items():
            module = importlib.import_module("firstterms." + file)
            for name, arguments in functions.items():
                function = getattr(module, name)
                self.assertTrue(inspect.isfunction(function), name)
                self.assertEqual(function.__module__, "firstterms." + file, name)
                self.check_parameters(function, arguments.split())

    def check_parameters(self, function, names):
        parameters = inspect.signature(function).parameters
        self.assertEqual(list(parameters), names, function)
        for parameter in parameters.values():
            self.assertEqual(parameter.kind, parameter.POSITIONAL_OR_KEYWORD, function)
            self.assertIs(parameter.default, parameter.empty, function)

    def test_methods_of_desks(self):
        self.assertEqual(Desk.__module__, "firstterms.desks")
        self.assertEqual(Desk.__bases__, (object,))
        self.check_parameters(Desk, [])
        for name, arguments in METHODS.items():
            method = vars(Desk)[name]
            self.assertTrue(inspect.isfunction(method), name)
            self.check_parameters(method, ["self"] + arguments.split())

    def test_all_of_the_document(self):
        """How many functions the document lists under each heading."""
        self.assertEqual([len(functions) for functions in INTERFACE.values()],
                         [2, 4, 1, 11, 11, 2, 5, 2, 5, 5, 10, 3, 5, 10, 6, 3, 2, 5, 3, 3, 6, 2, 1])
