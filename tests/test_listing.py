"""2.5: texts of machines."""

import re
import unittest

from runroots.counters import Machine
from runroots.errors import BadText
from runroots.listing import machine_of, machine_text

SAMPLE = "machine 2 3\ndec 0 1 2\ninc 1 0\nstop\n"
LONG = """machine 4 12
dec 3 11 10
inc 0 1
stop
dec 2 0 0
inc 1 11
inc 2 6
stop
dec 0 9 9
stop
inc 3 2
dec 1 7 8
inc 0 0
"""
FIRST = re.compile("machine ([1-4]) ([1-9]|1[0-2])", re.ASCII)
LINE = re.compile("stop|inc ([0-3]) ([0-9]|1[01])|dec ([0-3]) ([0-9]|1[01]) ([0-9]|1[01])", re.ASCII)


def is_right(line, registers, size):
    found = LINE.fullmatch(line)
    if not found:
        return False
    numbers = [int(word) for word in line.split(" ")[1:]]
    return all(number < (size if at else registers) for at, number in enumerate(numbers))


def first_wrong(text):
    """Return the number of the first line that is not right, or None."""
    *lines, rest = text.split("\n")
    found = FIRST.fullmatch(lines[0]) if lines else None
    if not found:
        return 1
    registers, size = map(int, found.groups())
    for number in range(1, size + 1):
        if number >= len(lines) or not is_right(lines[number], registers, size):
            return number + 1
    if len(lines) > size + 1 or rest:
        return size + 2
    return None if "stop" in lines else size + 1


class MachineText(unittest.TestCase):
    def test_the_example(self):
        machine = Machine(2, [("dec", 0, 1, 2), ("inc", 1, 0), ("stop",)])
        self.assertEqual(machine_text(machine), SAMPLE)

    def test_the_ends_of_the_ranges(self):
        self.assertEqual(machine_text(Machine(1, [("stop",)])), "machine 1 1\nstop\n")
        self.assertEqual(machine_text(Machine(4, [("inc", 3, 11)] * 11 + [("stop",)])),
                         "machine 4 12\n" + "inc 3 11\n" * 11 + "stop\n")

    def test_it_changes_nothing(self):
        machine = machine_of(LONG)
        kept = machine.table()
        machine_text(machine)
        self.assertEqual(machine.table(), kept)


class MachineOf(unittest.TestCase):
    def assert_bad(self, text, line):
        with self.assertRaises(BadText, msg=repr(text)) as caught:
            machine_of(text)
        self.assertEqual(caught.exception.line, line, repr(text))
        self.assertIs(type(caught.exception.line), int)

    def test_the_sample(self):
        machine = machine_of(SAMPLE)
        self.assertIsInstance(machine, Machine)
        self.assertEqual((machine.registers, machine.size), (2, 3))
        self.assertEqual(machine.table(), [("dec", 0, 1, 2), ("inc", 1, 0), ("stop",)])

    def test_texts_are_read_back(self):
        for text in (SAMPLE, LONG, "machine 1 1\nstop\n", "machine 4 1\nstop\n", "machine 1 2\nstop\nstop\n"):
            self.assertEqual(machine_text(machine_of(text)), text)

    def test_first_lines_that_are_not_right(self):
        for line in ("", "machine", "machine 1", "machine 1 1 1", "machine 0 1", "machine 5 1", "machine 1 0",
                     "machine 1 13", "machine 01 1", "machine 1 01", "machine +1 1", "machine -1 1", "machine 1  1",
                     "machine  1 1", " machine 1 1", "machine 1 1 ", "Machine 1 1", "machines 1 1", "machine\t1 1",
                     "machine 1 1\r", "machine 1 x", "machine x 1", "machine 1.0 1", "machine \u0661 1",
                     "machine 1 " + "1" * 5000, "machine " + "9" * 5000 + " 1", "stop", "machine 1,1"):
            self.assert_bad(line + "\nstop\n", 1)

    def test_no_first_line(self):
        for text in ("", "\n", "machine 1 1", "machine", "stop\n"):
            self.assert_bad(text, 1)

    def test_lines_of_another_form(self):
        for line in ("", " ", "stop ", " stop", "Stop", "halt", "stop 0", "inc", "inc 0", "inc 0 0 0", "inc  0 0", "inc 0  0",
                     "inc 0 0 ", " inc 0 0", "inc\t0 0", "inc 0,0", "inc 00 0", "inc 0 00", "inc 0 01", "inc +0 0",
                     "inc 0 -0", "inc -1 0", "inc 2 0", "inc 0 4", "inc x 0", "inc 0 x", "dec", "dec 0", "dec 0 0",
                     "dec 0 0 0 0", "dec 2 0 0", "dec 0 4 0", "dec 0 0 4", "dec 0 0 04", "dec 0 0 0\r", "stop\r",
                     "inc 0 \u0661", "inc 0 " + "1" * 5000, "machine 1 1", "0", "inc 0 0stop", "inc True 0"):
            self.assert_bad(f"machine 2 4\nstop\n{line}\nstop\nstop\n", 3)

    def test_a_line_that_is_missing(self):
        self.assert_bad("machine 1 1\n", 2)
        self.assert_bad("machine 1 3\nstop\n", 3)
        self.assert_bad("machine 2 4\ndec 0 1 2\ninc 1 0\nstop\n", 5)
        self.assert_bad("machine 1 3\ninc 0 0\n", 3)

    def test_a_line_that_lacks_its_newline(self):
        self.assert_bad("machine 1 1\nstop", 2)
        self.assert_bad(SAMPLE[:-1], 4)
        self.assert_bad("machine 2 4\ndec 0 1 2\ninc 1 0\nstop", 4)
        self.assert_bad("machine 1 2\nwrong\nstop", 2)

    def test_a_line_that_is_too_many(self):
        for more in ("stop\n", "stop", "\n", " ", "inc 0 0\n", "wrong\nwrong\n"):
            self.assert_bad(SAMPLE + more, 5)
            self.assert_bad("machine 1 1\nstop\n" + more, 3)

    def test_no_stop(self):
        self.assert_bad("machine 1 1\ninc 0 0\n", 2)
        self.assert_bad("machine 2 3\ndec 0 1 2\ninc 1 0\ninc 0 0\n", 4)

    def test_no_stop_comes_last(self):
        self.assert_bad("machine 1 1\ninc 0 0\nstop\n", 3)
        self.assert_bad("machine 1 2\ninc 0 0\n", 3)
        self.assert_bad("machine 1 2\ninc 0 0\ninc 0 0", 3)
        self.assert_bad("machine 1 2\ninc 0 2\ninc 0 0\n", 2)

    def test_the_first_of_several(self):
        self.assert_bad("machine 5 1\nwrong", 1)
        self.assert_bad("machine 1 3\nstop\nwrong\nwrong\nstop\n", 3)


class Spoilt(unittest.TestCase):
    """Texts with a small fault: either they are the text of another machine, or the right line is told."""

    def look_at(self, text):
        line = first_wrong(text)
        if line is None:
            self.assertEqual(machine_text(machine_of(text)), text)
            return True
        with self.assertRaises(BadText, msg=repr(text)) as caught:
            machine_of(text)
        self.assertEqual(caught.exception.line, line, repr(text))
        return False

    def test_a_character_left_out_or_doubled(self):
        for text in (SAMPLE, LONG):
            seen = [self.look_at(text[:at] + text[at + 1:]) for at in range(len(text))]
            seen += [self.look_at(text[:at] + text[at] + text[at:]) for at in range(len(text))]
            self.assertIn(False, seen)

    def test_a_character_replaced_or_put_in(self):
        for text in (SAMPLE, LONG):
            seen = []
            for sign in " \n\t\r+-0123459csx\u0661\x0b\u2028":
                for at in range(len(text)):
                    seen.append(self.look_at(text[:at] + sign + text[at + 1:]))
                    seen.append(self.look_at(text[:at] + sign + text[at:]))
            self.assertEqual(set(seen), {True, False})

    def test_cut_anywhere(self):
        for text in (SAMPLE, LONG):
            for at in range(len(text)):
                self.assertFalse(self.look_at(text[:at]))
                self.assertEqual(first_wrong(text[:at]), text[:at].count("\n") + 1)

    def test_lines_left_out_doubled_or_moved(self):
        for text in (SAMPLE, LONG):
            lines = text.splitlines(keepends=True)
            for at in range(len(lines)):
                self.assertFalse(self.look_at("".join(lines[:at] + lines[at + 1:])))
                self.assertFalse(self.look_at("".join(lines[:at] + lines[at:at + 1] + lines[at:])))
                for to in range(len(lines)):
                    rest = lines[:at] + lines[at + 1:]
                    moved = "".join(rest[:to] + lines[at:at + 1] + rest[to:])
                    self.assertEqual(self.look_at(moved), at == to or (at > 0 and to > 0))


if __name__ == "__main__":
    unittest.main()
