"""The interface: every name is defined in its own file, with its arguments."""

import ast
import pathlib
import unittest

import runroots

FOLDER = pathlib.Path(runroots.__file__).parent

FUNCTIONS = {
    "poly": {
        "constant": ["number"], "unknown": ["name"], "plus": ["first", "second"], "minus": ["first", "second"],
        "times": ["first", "second"], "scaled": ["polynomial", "number"], "power_of": ["polynomial", "exponent"],
        "replaced": ["polynomial", "name", "other"], "value_of": ["polynomial", "values"], "degree": ["polynomial"],
        "names_in": ["polynomial"], "is_name": ["value"], "is_polynomial": ["value"],
    },
    "relations": {"is_relation": ["value"], "holds": ["relation", "values"], "row_member": ["n", "a"]},
    "system": {
        "check": ["system", "values"], "joined": ["first", "second"], "renamed": ["system", "prefix"],
        "stem": ["system", "letter"],
    },
    "written": {"polynomial_text": ["polynomial"], "text_of": ["system"], "system_of": ["text"]},
    "counters": {"stops": ["machine", "run"], "is_run": ["machine", "value"]},
    "listing": {"machine_text": ["machine"], "machine_of": ["text"]},
    "history": {
        "history": ["machine"], "asked": ["machine", "inputs", "answers"], "solution": ["machine", "run", "c"],
        "least_bits": ["run"], "run_of": ["machine", "values"], "digits_of": ["number", "c", "count"],
        "number_of": ["digits", "c"],
    },
    "binomial": {
        "binomial": ["n", "k"], "carries": ["a", "b"], "twos": ["n"], "digit_of": ["number", "base", "position"],
        "is_under": ["a", "b"], "power_digits": ["b"],
    },
    "masks": {"mask_sizes": ["system", "values"]},
    "pairs": {
        "pair": ["n", "a"], "added": ["first", "second", "a"], "taken": ["first", "second", "a"],
        "pair_rest": ["n", "a", "m"], "index_of": ["value", "a"], "rank": ["a", "m"],
    },
    "index": {"witnesses": ["k", "a"], "is_witness": ["k", "a", "values"], "digits_needed": ["k", "a"]},
    "foursquares": {
        "square_sums": ["n"], "four_squares": ["n"], "square_product": ["first", "second"],
        "is_three_squares": ["n"], "is_two_squares": ["n"],
    },
    "onepoly": {
        "only": ["system"], "with_signs": ["polynomial"], "signed_values": ["values"], "unsigned_values": ["values"],
    },
    "relate": {
        "less": ["first", "second", "name"], "same_rest": ["first", "second", "modulus", "name", "other"],
        "either": ["first", "second"], "not_zero": ["polynomial", "name"],
    },
    "tower": {
        "size_of": ["system"], "sizes": ["size", "names"], "history_size": ["registers", "incs", "decs", "stops"],
    },
    "whole": {
        "equations": ["text", "inputs", "answers", "names"], "carried": ["machine", "run", "c", "tower"],
        "read": ["machine", "tower", "values"], "least_cost": ["values"],
    },
}
METHODS = {
    "system": {"System": {"__init__": ["self", "unknowns", "relations"], "kinds": ["self"]}},
    "counters": {"Machine": {
        "__init__": ["self", "registers", "lines"], "line": ["self", "number"], "table": ["self"],
        "step": ["self", "configuration"], "run": ["self", "inputs", "most"],
    }},
    "masks": {"MaskStair": {"__init__": ["self", "upper"], "down": ["self", "values"], "up": ["self", "values"]}},
    "powerstair": {"PowerStair": {"__init__": ["self", "system"], "down": ["self", "values"], "up": ["self", "values"]}},
    "rowstair": {"RowStair": {"__init__": ["self", "system"], "down": ["self", "values"], "up": ["self", "values"]}},
    "products": {"ProductStair": {
        "__init__": ["self", "upper"], "pairs": ["self"], "down": ["self", "values"], "up": ["self", "values"],
    }},
    "onepoly": {"OneStair": {"__init__": ["self", "upper"], "down": ["self", "values"], "up": ["self", "values"]}},
    "tower": {"Tower": {
        "__init__": ["self", "system", "names"], "down": ["self", "values"], "up": ["self", "values"],
        "levels": ["self", "values"],
    }},
}


def defined(name):
    tree = ast.parse((FOLDER / f"{name}.py").read_text())
    return {node.name: node for node in tree.body if isinstance(node, (ast.FunctionDef, ast.ClassDef))}


def arguments(node):
    return [argument.arg for argument in node.args.args]


class Interface(unittest.TestCase):
    def test_functions(self):
        for name, functions in FUNCTIONS.items():
            nodes = defined(name)
            for word, wanted in functions.items():
                self.assertIsInstance(nodes.get(word), ast.FunctionDef, (name, word))
                self.assertEqual(arguments(nodes[word]), wanted, (name, word))

    def test_methods_stand_in_their_class(self):
        for name, classes in METHODS.items():
            nodes = defined(name)
            for word, methods in classes.items():
                self.assertIsInstance(nodes.get(word), ast.ClassDef, (name, word))
                bodies = {node.name: node for node in nodes[word].body if isinstance(node, ast.FunctionDef)}
                for method, wanted in methods.items():
                    self.assertIn(method, bodies, (name, word))
                    self.assertEqual(arguments(bodies[method]), wanted, (name, word, method))


if __name__ == "__main__":
    unittest.main()
