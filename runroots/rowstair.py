"""The stair from "row" relations to equations alone: the index is forced by three pairs and by rests."""

from runroots.index import index_equations, witnesses
from runroots.poly import constant, minus, plus, times
from runroots.relations import equal, zero_test
from runroots.system import lowered, values_of, with_witnesses, witness_names

MARKS = "aomyxuvstbrpqcde"


class RowStair:
    """A stair from a system to one without "row" relations."""

    def __init__(self, system):
        self.upper = system
        self._names = witness_names(system, "row", "r", MARKS)
        self.lower = lowered(system, self._names, _relations)

    def down(self, values):
        """Return a solution of the upper system with the values of the witnesses."""
        return with_witnesses(self.upper, self._names, _numbers, values)

    def up(self, values):
        """Return the values of the upper system's unknowns, unchecked."""
        return values_of(self.upper, values)


def _relations(relation, numbers):
    _, member, index, base = relation
    given = {mark: number for mark, number in zip(MARKS, numbers)}
    flag, y = given["o"], given["y"]
    return [
        equal(minus(base, constant(2)), given["a"]),
        *zero_test(index, flag, given["m"]),
        # The member number 0 has no witnesses: where the index is 0, they are those of the member number 1.
        ("zero", plus(minus(member, y), times(flag, y))),
        *index_equations(plus(index, flag), base, given),
    ]


def _numbers(_, n, a):
    """Return the values of the witnesses for the member number n of the row of a."""
    o = int(n == 0)
    found = witnesses(n + o, a)
    return [a - 2, o, n + o - 1, *[found[mark] for mark in MARKS[3:]]]
