"""The bounds that several files share."""

MOST_CELLS = 200
