"""Texts of counter machines, and machines read from their texts."""

from runroots.counters import MOST_LINES, MOST_REGISTERS, Machine, STOP, is_line
from runroots.errors import BadText
from runroots.integers import natural_of

FIRST_WORD = "machine"


def machine_text(machine):
    """Return the text of a machine: a line with its numbers, and one for each of its lines."""
    rows = [(FIRST_WORD, machine.registers, machine.size)] + machine.table()
    return "".join([" ".join([str(item) for item in row]) + "\n" for row in rows])


def machine_of(text):
    """Return the machine whose text this is, or raise BadText with the first line that is not right."""
    pieces = text.split("\n")
    # What stands behind the last newline is no line: it is empty if the text is right.
    rows = [_row_of(line) for line in pieces[:-1]]
    if not rows or not _is_first(rows[0]):
        raise BadText(1)
    _, registers, size = rows[0]
    lines = rows[1:size + 1]
    for number, line in enumerate(lines, start=2):
        if not is_line(line, registers, size):
            raise BadText(number)
    if len(lines) < size:
        raise BadText(len(lines) + 2)
    if pieces[size + 1:] != [""]:
        raise BadText(size + 2)
    if STOP not in lines:
        raise BadText(size + 1)
    return Machine(registers, lines)


def _row_of(line):
    """Return the tuple of a line's word and its numbers, with None for what is no number."""
    word, *texts = line.split(" ")
    return (word, *[natural_of(text) for text in texts])


def _is_first(row):
    if len(row) != 3 or row[0] != FIRST_WORD or None in row:
        return False
    return 1 <= row[1] <= MOST_REGISTERS and 1 <= row[2] <= MOST_LINES
