"""Towers: stairs one below the other, and how large their systems become."""

from runroots.errors import BadTower
from runroots.masks import MaskStair
from runroots.onepoly import OneStair
from runroots.powerstair import PowerStair
from runroots.products import ProductStair
from runroots.relations import KINDS
from runroots.rowstair import RowStair
from runroots.system import has_zeros_alone

# The stairs that take relations of any kind, and those that take "zero" relations alone.
FREE = ("masks", "powers", "rows")
NARROW = ("products", "one")


class Tower:
    """A stair made of stairs, each one below the one before it."""

    def __init__(self, system, names):
        stairs = []
        lower = system
        for index, name in enumerate(names):
            if name not in FREE and (name not in NARROW or not has_zeros_alone(lower)):
                raise BadTower(index)
            stairs.append(_stair(name, lower))
            lower = stairs[-1].lower
        self.upper = system
        self.lower = lower
        self.stairs = tuple(stairs)

    def down(self, values):
        """Return the values of the lower system for a solution of the upper one."""
        return self.levels(values)[-1]

    def up(self, values):
        """Return the values of the upper system for those of the lower one."""
        found = values
        for stair in reversed(self.stairs):
            found = stair.up(found)
        return dict(found)

    def levels(self, values):
        """Return the list of the values on the way down, those of the upper system first."""
        below = [values]
        for stair in self.stairs:
            below.append(stair.down(below[-1]))
        return [dict(values), *below[1:]]


def _stair(name, system):
    if name == "masks":
        return MaskStair(system)
    if name == "powers":
        return PowerStair(system)
    if name == "rows":
        return RowStair(system)
    if name == "products":
        return ProductStair(system)
    return OneStair(system)


def size_of(system):
    """Return the numbers of the unknowns and of the relations of each kind."""
    kinds = system.kinds()
    return len(system.unknowns), *[kinds[word] for word in KINDS]


def sizes(size, names):
    """Return the list of the sizes of the systems of a tower, from the size of the first one."""
    found = [size]
    for index, name in enumerate(names):
        unknowns, zeros, unders, powers, rows = found[-1]
        if name == "masks":
            found.append((unknowns + 8 * unders, zeros + 3 * unders, 0, powers + 3 * unders, rows))
        elif name == "powers":
            found.append((unknowns + 10 * powers, zeros + 10 * powers, unders, 0, rows + 2 * powers))
        elif name == "rows":
            found.append((unknowns + 16 * rows, zeros + 14 * rows, unders, powers, 0))
        else:
            raise BadTower(index)
    return found


def history_size(registers, incs, decs, stops):
    """Return the size of the history of a machine with so many lines of the three kinds."""
    lines = incs + decs + stops
    unknowns = 6 + 4 * registers + lines + 2 * decs
    zeros = 4 + decs + 2 * registers
    unders = lines + 1 + incs + 4 * decs + 3 * registers
    return unknowns, zeros, unders, 2, 0
