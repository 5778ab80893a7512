"""The interface: every name is defined in its own file, with its arguments."""

import ast
import pathlib
import unittest

import runroots

FOLDER = pathlib.Path(runroots.__file__).parent

FUNCTIONS = {
    "poly": {
        "constant": ["number"], "unknown": ["name"], "plus": ["first", "second"], "minus": ["first", "second"],
        "times": ["first", "second"], "scaled": ["polynomial", "number"], "power_of": ["polynomial", "exponent"],
        "replaced": ["polynomial", "name", "other"], "value_of": ["polynomial", "values"], "degree": ["polynomial"],
        "names_in": ["polynomial"], "is_name": ["value"], "is_polynomial": ["value"],
    },
    "relations": {"is_relation": ["value"], "holds": ["relation", "values"], "row_member": ["n", "a"]},
    "system": {
        "check": ["system", "values"], "joined": ["first", "second"], "renamed": ["system", "prefix"],
        "stem": ["system", "letter"],
    },
}
METHODS = {"system": {"System": {"__init__": ["self", "unknowns", "relations"], "kinds": ["self"]}}}


def defined(name):
    tree = ast.parse((FOLDER / f"{name}.py").read_text())
    return {node.name: node for node in tree.body if isinstance(node, (ast.FunctionDef, ast.ClassDef))}


def arguments(node):
    return [argument.arg for argument in node.args.args]


class Interface(unittest.TestCase):
    def test_functions(self):
        for name, functions in FUNCTIONS.items():
            nodes = defined(name)
            for word, wanted in functions.items():
                self.assertIsInstance(nodes.get(word), ast.FunctionDef, (name, word))
                self.assertEqual(arguments(nodes[word]), wanted, (name, word))

    def test_methods_stand_in_their_class(self):
        for name, classes in METHODS.items():
            nodes = defined(name)
            for word, methods in classes.items():
                self.assertIsInstance(nodes.get(word), ast.ClassDef, (name, word))
                bodies = {node.name: node for node in nodes[word].body if isinstance(node, ast.FunctionDef)}
                for method, wanted in methods.items():
                    self.assertIn(method, bodies, (name, word))
                    self.assertEqual(arguments(bodies[method]), wanted, (name, word, method))


if __name__ == "__main__":
    unittest.main()
