"""Seen: what punches make the counts that were seen at the cells of a strip."""

from pleatpunch.wishes import next_stand, punches_of_walk


def fewest_seen(counts):
    """The fewest punches by which each cell is punched as often as seen."""
    # A stretch's sum is how far apart the stands at its two ends are.
    stands = _stands(counts)
    return max(stands) - min(stands)


def made(counts, many):
    """So many punches by which each cell is punched as often as seen, or None where so many don't do it."""
    least = fewest_seen(counts)
    if not least <= many <= sum(counts):
        return None
    told = []
    missing = many - least
    for cells in punches_of_walk(-min(_stands(counts)), counts, least):
        cut = min(missing, len(cells) - 1)
        told.extend([[cell] for cell in cells[:cut]])
        told.append(cells[cut:])
        missing -= cut
    return told


def _stands(counts):
    """The stands of the walk that begins at nought, ahead of each cell and behind the last one."""
    stands = [0]
    for cell, times in enumerate(counts):
        stands.append(next_stand(stands[cell], cell, times))
    return stands
