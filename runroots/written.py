"""Texts of polynomials and systems, and systems read from their texts."""

from runroots.errors import BadText
from runroots.integers import decimal_text, natural_of
from runroots.poly import is_name
from runroots.relations import KINDS
from runroots.system import System

FIRST_WORD = "unknowns"


def polynomial_text(polynomial):
    """Return the text of a polynomial, such as -4 + 1*x*x."""
    if not polynomial:
        return "0"
    return " + ".join([_term_text(monomial, polynomial[monomial]) for monomial in sorted(polynomial)])


def _term_text(monomial, number):
    return "*".join([decimal_text(number), *monomial])


def text_of(system):
    """Return the text of a system: a line for the unknowns, and one for each relation."""
    lines = [" ".join([FIRST_WORD, *system.unknowns])]
    for relation in system.relations:
        lines.append(" ; ".join([relation[0]] + [polynomial_text(item) for item in relation[1:]]))
    return "".join([line + "\n" for line in lines])


def system_of(text):
    """Return the system whose text this is, or raise BadText with the first line that is not right."""
    pieces = text.split("\n")
    # What stands behind the last newline is no line: it is empty if the text is right.
    lines = pieces[:-1]
    unknowns = _unknowns_of(lines[0]) if lines else None
    if unknowns is None:
        raise BadText(1)
    relations = []
    for number, line in enumerate(lines[1:], start=2):
        relation = _relation_of(line, unknowns)
        if relation is None:
            raise BadText(number)
        relations.append(relation)
    if pieces[-1]:
        raise BadText(len(pieces))
    return System(list(unknowns), relations)


def _unknowns_of(line):
    """Return a dict with the names of a first line as its keys, or None."""
    word, *names = line.split(" ")
    known = {name: True for name in names}
    if word != FIRST_WORD or len(known) != len(names):
        return None
    return known if all([is_name(name) for name in names]) else None


def _relation_of(line, unknowns):
    word, *texts = line.split(" ; ")
    if KINDS.get(word) != len(texts):
        return None
    polynomials = [_polynomial_of(text, unknowns) for text in texts]
    return None if None in polynomials else (word, *polynomials)


def _polynomial_of(text, unknowns):
    polynomial = {}
    if text == "0":
        return polynomial
    before = None
    for term in text.split(" + "):
        first, *names = term.split("*")
        monomial = tuple(names)
        number = _coefficient_of(first)
        if number is None or not _is_monomial_of(names, unknowns):
            return None
        if before is not None and monomial <= before:
            return None
        polynomial[monomial] = number
        before = monomial
    return polynomial


def _coefficient_of(text):
    number = natural_of(text.removeprefix("-"))
    if number is None or number == 0:
        return None
    return -number if text.startswith("-") else number


def _is_monomial_of(names, unknowns):
    return names == sorted(names) and all([name in unknowns for name in names])
