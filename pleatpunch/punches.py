"""One punch: the cells that it can have, and the foldings by which it has just them.

Each cell of a folded strip is a step of a walk, up or down, and a crease is where the walk turns about.
Cells lie at one place where their steps go over the same edge, up and down in turn. So from one cell of
the list to the next one the walk goes from an end of the edge back to this end and never passes it;
ahead of the first cell and behind the last one it never passes it either. These parts of the walk do not
hang on one another.
"""

from math import comb

from pleatpunch.errors import NoList, TooMany
from pleatpunch.limits import MOST_CELLS, MOST_TOLD, is_rising


def can_be(many, cells):
    """Whether a strip of so many cells has just these cells under one punch by some folding."""
    return 1 <= many <= MOST_CELLS and len(cells) > 0 and is_rising(cells, many) and odd_ones(cells) is None


def odd_ones(cells):
    """The first two neighbours that are not an odd distance apart, or None."""
    for ahead, cell in zip(cells, cells[1:]):
        if (cell - ahead) % 2 == 0:
            return (ahead, cell)
    return None


def least_folding(many, cells):
    """The folding of the fewest creases: one in the middle of each gap; NoList where the list can't be had."""
    _check(many, cells)
    return [(ahead + cell - 1) // 2 for ahead, cell in zip(cells, cells[1:])]


def counted(many, cells):
    """By how many foldings just these cells lie at the first one's place; NoList where they can't."""
    _check(many, cells)
    total = 1
    for steps, back in _parts(many, cells):
        total *= count_walks(steps, back)
    return total


def all_foldings(many, cells):
    """All the counted foldings, rising; TooMany of more than are told, NoList where there are none."""
    total = counted(many, cells)
    if total > MOST_TOLD:
        raise TooMany(total)
    found = [[]]
    for choices in _creases_of_parts(many, cells):
        found = [[*ahead, *creases] for ahead in found for creases in choices]
    return sorted(found)


def creased(many, cells):
    """For each crease, in how many of the counted foldings it is; NoList where the list can't be had."""
    total = counted(many, cells)
    told = []
    for at, (steps, back) in enumerate(_parts(many, cells)):
        turns = _count_turns(steps, back)
        # The part ahead of the list is walked from the first cell down to cell 0.
        if at == 0:
            turns.reverse()
        share = total // count_walks(steps, back)
        told.extend([share * times for times in turns])
    return told


def ways(many, plan):
    """For each list of the plan its least folding and its place there; NoList of the first that can't be had."""
    # No crease is ahead of the first cell, so the place where it lies has its number.
    return [(least_folding(many, cells), cells[0]) for cells in plan]


def count_walks(steps, back):
    """How many walks of so many steps never go below where they began; where back is so, that end there."""
    # Each known by a mirrored walk: the middle binomial number, and Catalan's where the walk goes back.
    if not back:
        return comb(steps, steps // 2)
    if steps % 2 == 1:
        return 0
    return comb(steps, steps // 2) // (steps // 2 + 1)


def _check(many, cells):
    if not can_be(many, cells):
        raise NoList("no punch can have just these cells")


def _parts(many, cells):
    """Of each part of the walk, in order: its steps, and whether it goes back to where it began."""
    gaps = [(cell - ahead - 1, True) for ahead, cell in zip(cells, cells[1:])]
    return [(cells[0], False), *gaps, (many - 1 - cells[-1], False)]


def _count_turns(steps, back):
    """How many of these walks turn at each crease, the first crease behind a step up to where they begin."""
    if back and steps == 0:
        return [1]
    # A turn is two steps, there and back. Without them the walk is of two steps fewer: any such one where the
    # turn is at the top, any but one that stands there just where it began where the turn is at the bottom.
    within = [2 * count_walks(steps - 2, back) - count_walks(at - 1, True) * count_walks(steps - 1 - at, back)
              for at in range(1, steps)]
    # Neither the first step nor the one down from where the walk came back to can turn.
    turns = [0, *within, 0]
    return turns if back else turns[:steps]


def _creases_of_parts(many, cells):
    """For each part of the walk all the lists of creases that it can have."""
    first, last = cells[0], cells[-1]
    ahead = [_turns(0, [*walk[::-1], 1]) for walk in _walks(first, False)]
    gaps = [[_turns(one, [1, *walk, -1]) for walk in _walks(other - one - 1, True)]
            for one, other in zip(cells, cells[1:])]
    behind = [_turns(last, [1, *walk]) for walk in _walks(many - 1 - last, False)]
    return [ahead, *gaps, behind]


def _walks(steps, back):
    """The walks of which count_walks tells the number, each a list of steps, 1 up and -1 down."""
    found = [([], 0)]
    for left in range(steps - 1, -1, -1):
        found = [([*walk, step], height + step) for walk, height in found for step in (-1, 1)
                 if 0 <= height + step and (not back or height + step <= left)]
    return [walk for walk, _ in found]


def _turns(first, walk):
    """The creases where the walk, whose first step is the first cell, turns about."""
    return [first + at for at in range(len(walk) - 1) if walk[at] != walk[at + 1]]
