"""The bounds of tables and of what is looked at."""

# How many pairs, tuples of sets, and places are looked at, at the most.
SIDES = 512
SETS = 1024
PLACES = 512
SMALL = 64

# How many moves a mend has, at the most.
MENDS = 2

# How great a table is, at the most.
STATES = 8
MOVES = 24
MARKS = 4

# How many letters a NAME has, at the most.
LETTERS = 8
