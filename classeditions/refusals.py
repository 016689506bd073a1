"""The numbers that a refused call answers."""

OUT_OF_RANGE = -1
FULL = -3
NO_PAPER = -5
NOT_RIGHT = -6
NOT_THERE = -7
NO_QUERY = -8
