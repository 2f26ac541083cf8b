"""The bounds of tables, sayings and programs, and of what is looked at."""

# How many pairs, tuples of sets, and places are looked at, at the most.
SIDES = 512
SETS = 1024
PLACES = 512
SMALL = 64

# How many moves a mend has, at the most.
MENDS = 2

# How great a table is, at the most.
STATES = 8
MOVES = 24
MARKS = 4

# How many letters a NAME has, at the most.
LETTERS = 8

# How great a saying is, at the most: heads, parts, and parts that look back.
HEADS = 3
PARTS = 12
BACKS = 4

# How great a program is, at the most: vars and ins, and the most of each; how
# many are shown, and their letters, as a mark has one letter more; how many
# tuples of numbers there are, of the ins and of all.
HELD = 7
MOST = 3
SHOWN = 4
SHOWN_LETTERS = 7
IN_TUPLES = 8
TUPLES = 256
