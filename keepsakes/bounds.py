"""Bounds that the points set."""

# The greatest block: sixty-four bits, all of them set.
W = 18446744073709551615

MOST_BLOCKS = 40

MOST_FIGURES = 20

# The greatest day of pieces that are made by hand.
MOST_DAY = 1000000000

# For how many days a plan is made at most.
MOST_PLANNED = 7

# The greatest rate, weight or size of a task.
MOST_RATE = 1000000000000
