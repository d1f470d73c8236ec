"""Rings: strips of evenly many cells whose last cell is followed by the first.

What a strip walks from end to end, a ring walks all round and must come back to where it began: a folding
over places, and a plan over stands. A list of cells is had by one punch where it is one of the strip's lists and
of evenly many cells, since a walk that comes back goes as often down over an edge as up.
"""

from pleatpunch.errors import NoFolds, NoList
from pleatpunch.foldings import walked
from pleatpunch.limits import MOST_CELLS, is_rising
from pleatpunch.punches import can_be, count_walks
from pleatpunch.wishes import (
    bounds_of, cell_without_pass, keeps_to, punches_of_walk, ranges_of_stands, times_of_walk, worth_of)


def is_ring_folding(many, folds):
    """Whether the list is a folding of a ring of so many cells."""
    if not _is_ring(many) or not is_rising(folds, many):
        return False
    # Each crease turns the way about, so that after evenly many of them it goes upwards again.
    return len(folds) % 2 == 0 and walked(many, folds)[many] == 0


def ring_places(many, folds):
    """The place of each cell; NoFolds of what is no folding."""
    # The message leaves out the numbers: one of very many figures can't be shown.
    if not is_ring_folding(many, folds):
        raise NoFolds("no folding of a ring of so many cells")
    return walked(many - 1, folds)


def ring_can_be(many, cells):
    """Whether a ring of so many cells has just these cells under one punch by some folding."""
    return _is_ring(many) and len(cells) % 2 == 0 and can_be(many, cells)


def ring_least_folding(many, cells):
    """The folding of the fewest creases: one in the middle of each gap, the last one too; NoList of no such list."""
    return sorted([(cell + (steps - 1) // 2) % many for cell, steps in _gaps(many, cells)])


def ring_counted(many, cells):
    """By how many foldings just these cells lie at the first one's place; NoList of no such list."""
    # Each gap is a walk of its own that goes back to the place; that cell 0 goes upwards tells their sides.
    total = 1
    for _, steps in _gaps(many, cells):
        total *= count_walks(steps - 1, True)
    return total


def ring_fewest(ring, wish):
    """How many punches the fewest plan has, or None where there is no plan; NoWish of what is no wish."""
    bounds = bounds_of(ring, wish)
    if _hindrance(ring, wish, bounds) is not None:
        return None
    best, _ = _best_arc(bounds)
    return best


def ring_plan(ring, wish):
    """A fewest plan, or None where there is none; NoWish of what is no wish."""
    many = ring_fewest(ring, wish)
    if many is None:
        return None
    bounds = bounds_of(ring, wish)
    ranges = _closed_ranges(bounds, many)
    stand, _ = ranges[-1]
    return punches_of_walk(stand, times_of_walk(stand, bounds, ranges), many)


def ring_tight(ring, wish):
    """The least arc whose worth is the fewest, None of the empty wish, or what lets no plan be: torn or a round."""
    bounds = bounds_of(ring, wish)
    hindrance = _hindrance(ring, wish, bounds)
    if hindrance is not None:
        return hindrance
    _, arc = _best_arc(bounds)
    return arc


def ring_worth(ring, wish, stretch):
    """The worth of the stretch, an arc or a round; NoWish of what is no wish."""
    bounds = bounds_of(ring, wish)
    if stretch[0] == "round":
        return _round_worth(bounds, stretch[1])
    _, first, many, parity = stretch
    return worth_of(bounds, [cell for cell in range(len(ring)) if (cell - first) % len(ring) < many], parity)


def is_ring_plan(ring, wish, plan):
    """Whether the lists are punches of a plan for the wish, the fewest or not; NoWish of what is no wish."""
    bounds = bounds_of(ring, wish)
    return all([ring_can_be(len(ring), cells) for cells in plan]) and keeps_to(bounds, plan)


def _is_ring(many):
    return 2 <= many <= MOST_CELLS and many % 2 == 0


def _gaps(many, cells):
    """Of each cell of the list, how many steps it is to the next one, from the last one round to the first."""
    if not ring_can_be(many, cells):
        raise NoList("no punch of the ring can have just these cells")
    return [(cell, behind - cell) for cell, behind in zip(cells, [*cells[1:], cells[0] + many])]


def _hindrance(ring, wish, bounds):
    """What lets no plan be, or None: the first wished cell without a pass, else a round whose worth is above nought."""
    cell = cell_without_pass(ring, wish)
    if cell is not None:
        return ("torn", cell)
    for parity in (0, 1):
        if _round_worth(bounds, parity) > 0:
            return ("round", parity)
    return None


def _round_worth(bounds, parity):
    return worth_of(bounds, list(range(len(bounds))), parity)


def _best_arc(bounds):
    """The greatest worth of an arc and the least arc that has it, or nought and None where none is above nought."""
    best = 0
    arc = None
    for first in range(len(bounds)):
        worths = [0, 0]
        for many in range(1, len(bounds)):
            cell = (first + many - 1) % len(bounds)
            few, most = bounds[cell]
            worths[cell % 2] += few
            worths[1 - cell % 2] -= most
            for parity in (0, 1):
                if worths[parity] > best:
                    best = worths[parity]
                    arc = ("arc", first, many, parity)
    return (best, arc)


def _closed_ranges(bounds, many):
    """The ranges of the walks that begin and end at the least stand, up to so many, where any walk does."""
    found = [ranges_of_stands(bounds, (stand, stand), many) for stand in range(many + 1)]
    closed = [ranges for ranges in found if _comes_back(ranges)]
    return closed[0]


def _comes_back(ranges):
    """Whether a walk within the ranges can begin at the stand where it ends."""
    least, greatest = ranges[0]
    end, _ = ranges[-1]
    return least <= end <= greatest and all([low <= high for low, high in ranges])
