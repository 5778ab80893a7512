"""Polynomials and relations from formulas as the document writes them, made without the program.

A dict `given` may tell a formula for some of the names.
"""

import ast


def polynomial(text, given=None):
    """Return the polynomial of a formula such as (Q - 1) * I + 2 * x."""
    return _polynomial(ast.parse(text.strip(), mode="eval").body, given or {})


def _polynomial(node, given):
    if isinstance(node, ast.Constant):
        return {(): node.value} if node.value else {}
    if isinstance(node, ast.Name):
        return polynomial(given[node.id]) if node.id in given else {(node.id,): 1}
    left, right = _polynomial(node.left, given), _polynomial(node.right, given)
    if isinstance(node.op, ast.Mult):
        terms = [(tuple(sorted(a + b)), m * n) for a, m in left.items() for b, n in right.items()]
    else:
        sign = {ast.Add: 1, ast.Sub: -1}[type(node.op)]
        terms = [*left.items(), *((monomial, sign * number) for monomial, number in right.items())]
    sums = {}
    for monomial, number in terms:
        sums[monomial] = sums.get(monomial, 0) + number
    return {monomial: number for monomial, number in sums.items() if number}


def relation(text, given=None):
    """Return the relation of `u = v`, or of a word and formulas with ` ; ` before each."""
    if " = " in text:
        left, right = text.split(" = ")
        return ("zero", polynomial(f"({left}) - ({right})", given))
    word, *formulas = text.split(" ; ")
    return (word, *(polynomial(formula, given) for formula in formulas))


def relations(text, given=None):
    """Return the tuple of the relations that stand in a text, a line each."""
    return tuple(relation(line.strip(), given) for line in text.strip().split("\n"))
