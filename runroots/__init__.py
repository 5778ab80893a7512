"""Runroots: the runs of a machine as the roots of equations."""
