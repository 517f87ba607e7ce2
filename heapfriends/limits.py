"""The limits beyond which something is refused: the most books of a pile with Full, the others with TooMany."""

MOST_RINGS = 300
MOST_KNOT = 6
MOST_LED = 800
MOST_GOINGS = 8
MOST_BOOKS = 12
