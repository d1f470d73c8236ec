"""Wear: the stretches that make a wish dear, and the cells whose passes or holes would make it cheaper or dearer."""

from pleatpunch.errors import TooMany
from pleatpunch.limits import MOST_TOLD
from pleatpunch.wishes import bounds_of, fewest, tight_stretches


def all_tight(strip, wish):
    """All stretches whose worth is the fewest, rising; TooMany of more than are told, NoWish of what is no wish."""
    if not fewest(strip, wish):
        return []
    found = tight_stretches(bounds_of(strip, wish))
    if len(found) > MOST_TOLD:
        raise TooMany(len(found))
    return found


def cheaper(strip, wish):
    """The wished and holed cells by a pass more of which the fewest would be less; NoWish of what is no wish."""
    now = fewest(strip, wish)
    # Both where there is no plan and of the empty wish: nothing can be less.
    if not now:
        return []
    return [cell for cell in _punched(strip, wish) if fewest(_with_passes(strip, cell, 1), wish) < now]


def dearer(strip, wish):
    """The wished and holed cells by a pass less of which the fewest would be more, or no plan be; NoWish likewise."""
    now = fewest(strip, wish)
    if not now:
        return []
    found = []
    for cell in _punched(strip, wish):
        if strip[cell][1] > 0:
            then = fewest(_with_passes(strip, cell, -1), wish)
            if then is None or then > now:
                found.append(cell)
    return found


def helpful(strip, wish):
    """The whole cells not wished which, were they holed, would make the fewest less; NoWish of what is no wish."""
    now = fewest(strip, wish)
    if not now:
        return []
    punched = set(_punched(strip, wish))
    return [cell for cell, (_, left) in enumerate(strip)
            if cell not in punched and fewest(_with_cell(strip, cell, (True, left)), wish) < now]


def _punched(strip, wish):
    """The cells that a plan may punch: the wished and the holed ones."""
    wished = set(wish)
    return [cell for cell, (holed, _) in enumerate(strip) if holed or cell in wished]


def _with_passes(strip, cell, more):
    holed, left = strip[cell]
    return _with_cell(strip, cell, (holed, left + more))


def _with_cell(strip, cell, other):
    return [*strip[:cell], other, *strip[cell + 1:]]
