"""Strips: lists of cells (holed, left), their texts, and how they are put together."""

from pleatpunch.errors import NoCell, NoText
from pleatpunch.limits import MOST_CELLS, MOST_PASSES, is_number


def read(text):
    """The strip that the text tells; NoText where it tells none."""
    words = text.split(" ")
    if len(words) > MOST_CELLS:
        raise NoText("more cells than a strip has")
    return [_cell(word) for word in words]


def written(strip):
    """The text of the strip."""
    return " ".join([_word(holed, left) for holed, left in strip])


def glued(one, other):
    """The strip of both, the other behind the one."""
    return [*one, *other]


def parted(strip, cell):
    """The two strips up to the cell and behind it; NoCell where nothing is behind it."""
    # The message leaves out the number: one of very many figures can't be shown.
    if not 0 <= cell < len(strip) - 1:
        raise NoCell("no cell to cut behind")
    return (strip[:cell + 1], strip[cell + 1:])


def turned(strip):
    """The strip turned about, its last cell first."""
    return strip[::-1]


def _cell(word):
    figures = word.removesuffix("o")
    if not is_number(figures) or int(figures) > MOST_PASSES:
        raise NoText(f"not written as a cell: {word}")
    return (figures != word, int(figures))


def _word(holed, left):
    return f"{left}o" if holed else str(left)
