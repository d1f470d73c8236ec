"""Foldings: rising lists of creases, and where the cells come to lie by them."""

from pleatpunch.errors import NoFolds
from pleatpunch.limits import MOST_CELLS, is_rising


def is_folding(many, folds):
    """Whether the list is a folding of a strip of so many cells."""
    return 1 <= many <= MOST_CELLS and is_rising(folds, many - 1)


def places(many, folds):
    """The place of each cell; NoFolds of what is no folding."""
    # The message leaves out the numbers: one of very many figures can't be shown.
    if not is_folding(many, folds):
        raise NoFolds("no folding of so many cells")
    return walked(many - 1, folds)


def cells_at(many, folds, place):
    """The cells that lie at the place, rising; NoFolds of what is no folding."""
    return [cell for cell, at in enumerate(places(many, folds)) if at == place]


def stacks(many, folds):
    """The cells at each place, from the least place to the greatest; NoFolds of what is no folding."""
    laid = places(many, folds)
    least = min(laid)
    piles = [[] for _ in range(least, max(laid) + 1)]
    for cell, place in enumerate(laid):
        piles[place - least].append(cell)
    return piles


def walked(steps, folds):
    """The place of cell 0 and, after each of so many steps, that of the cell come to."""
    creases = set(folds)
    place = 0
    way = 1
    laid = [place]
    for cell in range(steps):
        if cell in creases:
            way = -way
        else:
            place += way
        laid.append(place)
    return laid
