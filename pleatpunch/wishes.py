"""Wishes: the fewest punches by which just the wished cells are newly holed, their plan, and the proof.

A plan is a walk over stands, up at even cells and down at odd ones, by one for each punch of the cell.
"""

from pleatpunch.errors import NoWish
from pleatpunch.limits import is_rising
from pleatpunch.punches import can_be


def fewest(strip, wish):
    """How many punches the fewest plan has, or None where there is no plan; NoWish of what is no wish."""
    bounds = bounds_of(strip, wish)
    return None if cell_without_pass(strip, wish) is not None else _greatest_worth(bounds)


def plan(strip, wish):
    """The fewest plan that the walk tells, or None where there is none; NoWish of what is no wish."""
    bounds = bounds_of(strip, wish)
    many = fewest(strip, wish)
    if many is None:
        return None
    ranges = ranges_of_stands(bounds, (0, many), many)
    stand = ranges[0][0]
    return punches_of_walk(stand, times_of_walk(stand, bounds, ranges), many)


def tight(strip, wish):
    """The least stretch whose worth is the fewest, None of the empty wish, or the first cell that lets no plan be."""
    bounds = bounds_of(strip, wish)
    if len(wish) == 0:
        return None
    cell = cell_without_pass(strip, wish)
    return tight_stretches(bounds)[0] if cell is None else cell


def worth(strip, wish, stretch):
    """The worth of the stretch: its punches at least at the one parity, less those at most at the other one."""
    first, last, parity = stretch
    bounds = bounds_of(strip, wish)
    return worth_of(bounds, [cell for cell in range(len(bounds)) if first <= cell <= last], parity)


def is_plan(strip, wish, plan):
    """Whether the lists are punches of a plan for the wish, the fewest or not; NoWish of what is no wish."""
    bounds = bounds_of(strip, wish)
    return all([can_be(len(strip), cells) for cells in plan]) and keeps_to(bounds, plan)


def bounds_of(strip, wish):
    """Of each cell, how often a plan punches it at least and at most; NoWish of what is no wish."""
    if not is_rising(wish, len(strip)) or any([strip[cell][0] for cell in wish]):
        raise NoWish("no rising list of whole cells of the strip")
    wished = set(wish)
    bounds = []
    for cell, (holed, left) in enumerate(strip):
        bounds.append((1 if cell in wished else 0, left if holed or cell in wished else 0))
    return bounds


def cell_without_pass(strip, wish):
    """The first wished cell that has no pass, or None."""
    return next((cell for cell in wish if strip[cell][1] == 0), None)


def worth_of(bounds, cells, parity):
    """What punches the cells of the parity need at least, less those that the others of the cells let at most."""
    total = 0
    for cell in cells:
        few, most = bounds[cell]
        total += few if cell % 2 == parity else -most
    return total


def keeps_to(bounds, plan):
    """Whether the punches have each cell as often as it may be punched."""
    times = [0] * len(bounds)
    for cells in plan:
        for cell in cells:
            times[cell] += 1
    return all([few <= many <= most for (few, most), many in zip(bounds, times)])


def tight_stretches(bounds):
    """All stretches of the greatest worth, rising."""
    best = _greatest_worth(bounds)
    found = []
    for first in range(len(bounds)):
        worths = [0, 0]
        for last in range(first, len(bounds)):
            few, most = bounds[last]
            worths[last % 2] += few
            worths[1 - last % 2] -= most
            found.extend([(first, last, parity) for parity in (0, 1) if worths[parity] == best])
    return found


def ranges_of_stands(bounds, end, many):
    """Ahead of each cell the least and the greatest stand, up to so many, from which the walk can go on to the end.

    The end is such a range itself, the last one; where a least stand is above the greatest, no walk goes there.
    """
    least, greatest = end
    ranges = [end]
    for cell in range(len(bounds) - 1, -1, -1):
        few, most = bounds[cell]
        if cell % 2 == 0:
            least, greatest = max(0, least - most), greatest - few
        else:
            least, greatest = least + few, min(many, greatest + most)
        ranges.append((least, greatest))
    return ranges[::-1]


def times_of_walk(stand, bounds, ranges):
    """How often the walk from the stand on punches each cell: as seldom as can be within the ranges."""
    times = []
    for cell, (few, _) in enumerate(bounds):
        least, greatest = ranges[cell + 1]
        times.append(max(few, least - stand) if cell % 2 == 0 else max(few, stand - greatest))
        stand = next_stand(stand, cell, times[cell])
    return times


def next_stand(stand, cell, times):
    """The stand behind the cell, from the one ahead of it."""
    return stand + times if cell % 2 == 0 else stand - times


def punches_of_walk(stand, times, many):
    """The cells of so many punches by the walk from the stand on that punches each cell so many times."""
    punches = [[] for _ in range(many)]
    for cell, often in enumerate(times):
        after = next_stand(stand, cell, often)
        for at in range(min(stand, after), max(stand, after)):
            punches[at].append(cell)
        stand = after
    return punches


def _greatest_worth(bounds):
    """The greatest worth of any stretch, but nought where none is above it."""
    best = 0
    for parity in (0, 1):
        # The greatest worth of the stretches that end at the cell; one below nought is better left off.
        ending = 0
        for cell, (few, most) in enumerate(bounds):
            ending = max(0, ending + (few if cell % 2 == parity else -most))
            best = max(best, ending)
    return best
