"""The bounds that several files share, and the look whether a list keeps to them."""

MOST_CELLS = 200
MOST_TOLD = 1000


def is_rising(numbers, end):
    """Whether each number is greater than the one ahead, all from 0 on and below the end."""
    ahead = -1
    for number in numbers:
        if not ahead < number < end:
            return False
        ahead = number
    return True
