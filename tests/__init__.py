"""The tests of the program; `formulas` has what several of them share."""
