"""The bounds that several files share, and the looks whether a list or a word keeps to them."""

MOST_CELLS = 200
MOST_PASSES = 99
MOST_TOLD = 1000


def is_rising(numbers, end):
    """Whether each number is greater than the one ahead, all from 0 on and below the end."""
    ahead = -1
    for number in numbers:
        if not ahead < number < end:
            return False
        ahead = number
    return True


def is_number(word):
    """Whether the word is a number from 0 on, of one to nine figures without a 0 ahead but in 0 itself."""
    # The length is looked at first: int() refuses thousands of figures.
    if len(word) > 9 or not word.isdecimal():
        return False
    # Written anew it is the same just where no 0 is ahead and each figure is from 0 to 9.
    return word == str(int(word))
