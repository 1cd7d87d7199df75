"""The bounds of point 3 that several modules ask for."""

# The greatest block: sixty-four bits, all of them set.
W = 18446744073709551615

MOST_BLOCKS = 40

MOST_FIGURES = 20

# The greatest day of pieces that are made by hand.
MOST_DAY = 1000000000
