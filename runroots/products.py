"""The stair to equations of degree two: longer monomials are made of products with names of their own."""

from runroots.errors import BadSystem
from runroots.poly import collected, is_name, times, unknown
from runroots.relations import equal
from runroots.system import System, demand_solution, demand_values, demand_zeros, stem, values_of


class ProductStair:
    """A stair from a system of "zero" relations alone to one in which no degree is above 2."""

    def __init__(self, upper):
        demand_zeros(upper)
        self.upper = upper
        self._names = _witnesses(upper, stem(upper, "q"))
        products = [
            equal(unknown(name), times(unknown(first), unknown(second)))
            for (first, second), name in self._names.items()
        ]
        shorter = [("zero", _shortened(relation[1], self._names)) for relation in upper.relations]
        self.lower = System([*upper.unknowns, *list(self._names.values())], products + shorter)

    def pairs(self):
        """Return a new list of the pairs of names whose products are the witnesses."""
        return list(self._names)

    def down(self, values):
        """Return a solution of the upper system with the values of the products."""
        demand_solution(self.upper, values)
        found = values_of(self.upper, values)
        for (first, second), name in self._names.items():
            found[name] = found[first] * found[second]
        return found

    def up(self, values):
        """Return the values without those of the products."""
        demand_values(self.lower, values)
        return values_of(self.upper, values)


def _witnesses(system, start):
    """Return a dict from the pairs of names that are multiplied to the witnesses, in the order of need."""
    found = {}
    for relation in system.relations:
        for monomial in [longer for longer in sorted(relation[1]) if len(longer) > 2]:
            product = monomial[0]
            for name in monomial[1:-1]:
                pair = (product, name)
                if pair not in found:
                    found[pair] = _named(start, len(found))
                product = found[pair]
    return found


def _named(start, number):
    name = f"{start}{number}"
    if not is_name(name):
        raise BadSystem("the name of a product would be too long")
    return name


def _shortened(polynomial, witnesses):
    """Return the polynomial with the witnesses in its monomials, each of which then has two names at most."""
    return collected([(_pair_or_less(monomial, witnesses), number) for monomial, number in polynomial.items()])


def _pair_or_less(monomial, witnesses):
    if len(monomial) < 3:
        return monomial
    product = monomial[0]
    for name in monomial[1:-1]:
        product = witnesses[(product, name)]
    return tuple(sorted([product, monomial[-1]]))
