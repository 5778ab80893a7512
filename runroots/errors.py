"""The errors of the program."""


class RootsError(ValueError):
    """The base class of all errors that the program raises."""


class BadSystem(RootsError):
    """Names or relations do not make a system, or a system does not fit."""


class BadValues(RootsError):
    """Values are not integers from 0 on for exactly the unknowns."""


class BadText(RootsError):
    """A text is not of its form; `line`, from 1 on, is where it goes wrong."""

    def __init__(self, line):
        super().__init__(f"line {line} is not right")
        self.line = line


class BadMachine(RootsError):
    """Numbers and lines do not make a counter machine."""


class BadRun(RootsError):
    """A value is not a run of the machine that stops."""


class TooFew(RootsError):
    """A run needs more binary digits than it is given."""


class NotSolution(RootsError):
    """Values do not solve a system; `index` is the first relation that fails."""

    def __init__(self, index):
        super().__init__(f"relation {index} does not hold")
        self.index = index


class TooGreat(RootsError):
    """A number is beyond the limit that is set for it."""


class BadTower(RootsError):
    """A stair cannot stand in a tower; `index` is the place of its name."""

    def __init__(self, index):
        super().__init__(f"stair {index} cannot stand there")
        self.index = index
