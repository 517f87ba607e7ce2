"""The limits beyond which something is refused with TooMany."""

MOST_RINGS = 300
MOST_KNOT = 6
MOST_LED = 800
MOST_GOINGS = 8
