"""Systems: unknowns, the relations between them, the check of values, and what stairs share."""

from runroots.errors import BadSystem, BadValues, NotSolution
from runroots.integers import is_natural
from runroots.poly import copied, is_name, names_in, unknown, value_of
from runroots.relations import KINDS, holds, is_relation

LONGEST_STEM = 6


class System:
    """A system of relations between polynomials in unknowns."""

    def __init__(self, unknowns, relations):
        _demand_names(unknowns)
        _demand_relations(relations, unknowns)
        self.unknowns = tuple(unknowns)
        # A polynomial is a dict, which its owner may change later: the system keeps its own.
        self.relations = tuple([
            (relation[0], *[copied(polynomial) for polynomial in relation[1:]]) for relation in relations
        ])

    def kinds(self):
        """Return a dict from the four words to the numbers of relations of this kind."""
        counts = {word: 0 for word in KINDS}
        for relation in self.relations:
            counts[relation[0]] += 1
        return counts


def _demand_names(unknowns):
    known = {}
    for name in unknowns:
        if not is_name(name):
            raise BadSystem("an unknown has no name")
        if name in known:
            raise BadSystem(f"the unknown {name} occurs twice")
        known[name] = True


def _demand_relations(relations, unknowns):
    known = {name: True for name in unknowns}
    for index, relation in enumerate(relations):
        if not is_relation(relation):
            raise BadSystem(f"member {index} is no relation")
        for polynomial in relation[1:]:
            for name in names_in(polynomial):
                if name not in known:
                    raise BadSystem(f"relation {index} contains {name}, which is no unknown")


def check(system, values):
    """Return (True, 0) if every relation holds, else (False, the index of the first that does not)."""
    demand_values(system, values)
    for index, relation in enumerate(system.relations):
        if not holds(relation, values):
            return False, index
    return True, 0


def demand_values(system, values):
    """Raise BadValues unless the values are integers from 0 on for exactly the unknowns."""
    if not _fits(system, values):
        raise BadValues("the values are not integers from 0 on for exactly the unknowns")


def demand_solution(system, values):
    """Raise BadValues as check does, and otherwise NotSolution if a relation does not hold."""
    right, index = check(system, values)
    if not right:
        raise NotSolution(index)


def has_zeros_alone(system):
    """Return whether all relations of a system are "zero"."""
    return system.kinds()["zero"] == len(system.relations)


def demand_zeros(system):
    """Raise BadSystem unless all relations of a system are "zero"."""
    if not has_zeros_alone(system):
        raise BadSystem("a relation is none of the kind zero")


def _fits(system, values):
    if not isinstance(values, dict) or len(values) != len(system.unknowns):
        return False
    for name in system.unknowns:
        if not is_natural(values.get(name)):
            return False
    return True


def joined(first, second):
    """Return the system with the unknowns and the relations of both."""
    known = {name: True for name in first.unknowns}
    further = [name for name in second.unknowns if name not in known]
    return System([*first.unknowns, *further], [*first.relations, *second.relations])


def renamed(system, prefix):
    """Return the system in which each name has a prefix before it."""
    unknowns = [prefix + name for name in system.unknowns]
    relations = [
        (relation[0], *[_prefixed(polynomial, prefix) for polynomial in relation[1:]])
        for relation in system.relations
    ]
    # The constructor refuses names that have become too long.
    return System(unknowns, relations)


def _prefixed(polynomial, prefix):
    # The same prefix before all names leaves them in ascending order.
    return {
        tuple([prefix + name for name in monomial]): number
        for monomial, number in polynomial.items()
    }


def stem(system, letter):
    """Return the shortest string of this letter alone with which no unknown begins."""
    for length in range(1, LONGEST_STEM + 1):
        text = letter * length
        if not any([name.startswith(text) for name in system.unknowns]):
            return text
    raise BadSystem(f"unknowns begin with {LONGEST_STEM} times the letter {letter}")


def witness_names(system, word, letter, marks):
    """Return a dict from the indexes of the relations with this word to the lists of their witnesses' names."""
    start = stem(system, letter)
    return {
        index: [f"{start}{index}{mark}" for mark in marks]
        for index, relation in enumerate(system.relations)
        if relation[0] == word
    }


def lowered(system, names, write):
    """Return the system in which `write`, of a relation and its witnesses, tells what stands for each relation."""
    unknowns = list(system.unknowns)
    relations = []
    for index, relation in enumerate(system.relations):
        if index in names:
            unknowns.extend(names[index])
            relations.extend(write(relation, [unknown(name) for name in names[index]]))
        else:
            relations.append(relation)
    # The constructor refuses names that are too long.
    return System(unknowns, relations)


def with_witnesses(system, names, work_out, values):
    """Return a solution with its witnesses, which `work_out` tells for the values of a relation's polynomials."""
    demand_solution(system, values)
    found = values_of(system, values)
    for index, given in names.items():
        numbers = [value_of(polynomial, values) for polynomial in system.relations[index][1:]]
        for name, number in zip(given, work_out(*numbers)):
            found[name] = number
    return found


def values_of(system, values):
    """Return a new dict with the values of the unknowns alone."""
    return {name: values[name] for name in system.unknowns}
