"""Far strips: patterns that stand very many times, one behind the other.

A piece of a far strip is known by what its neighbours need of it, so that two pieces are joined whatever their
lengths are, and one that stands many times is joined with itself by doubling. A piece is (many, sides): its number
of cells, and a side for each parity, as if its own first cell were cell 0. A side tells of the worths of its
stretches of that parity, by tuples of which the greater one is the better one:

- total: the worth of all of it;
- head, (worth, - cells): the greatest worth that it begins with, by the fewest cells, perhaps none;
- tail, (worth, cells): the greatest worth that it ends with, by the most cells, perhaps none;
- best, (worth, - first, - last): the greatest worth of its stretches, and the least stretch that has it; a worth of 0
  may be that of no cells, which no far strip with a wished cell has for its best.
"""


def far_fewest(runs):
    """How many punches the fewest plan has for the wished cells of all runs."""
    worth, _, _, _ = _best_stretch(runs)
    return worth


def far_tight(runs):
    """The least stretch whose worth is the fewest, or None where nothing is wished."""
    worth, first, last, parity = _best_stretch(runs)
    # Where anything is wished, a stretch of one wished cell is worth a punch already.
    return None if worth == 0 else (first, last, parity)


def _best_stretch(runs):
    """(worth, first, last, parity) of the greatest worth and the least stretch that has it."""
    piece = _nothing()
    for pattern, times in runs:
        piece = _joined(piece, _repeated(_of_pattern(pattern), times))
    _, sides = piece
    found = []
    for parity in (0, 1):
        _, _, _, best = sides[parity]
        found.append((*best, -parity))
    worth, first, last, parity = max(found)
    return (worth, -first, -last, -parity)


def _nothing():
    """The piece of no cells."""
    side = (0, (0, 0), (0, 0), (0, 0, 0))
    return (0, [side, side])


def _of_cell(sign):
    """The piece of one cell: its first side tells of its own parity, the other one of the other parity."""
    wished = 1 if sign == "w" else 0
    punched = 1 if sign in ("w", "o") else 0
    return (1, [_side_of_cell(wished), _side_of_cell(-punched)])


def _side_of_cell(worth):
    return (worth, max((worth, -1), (0, 0)), max((worth, 1), (0, 0)), (worth, 0, 0))


def _of_pattern(pattern):
    piece = _nothing()
    for sign in pattern:
        piece = _joined(piece, _of_cell(sign))
    return piece


def _repeated(piece, times):
    """So many of the piece, one behind the other."""
    told = _nothing()
    while times > 0:
        if times % 2 == 1:
            told = _joined(told, piece)
        piece = _joined(piece, piece)
        times //= 2
    return told


def _joined(one, other):
    """The piece of both, the other behind the one."""
    many, sides = one
    more, others = other
    # Behind oddly many cells the other's own first cell has parity 1.
    joined = [_joined_side(many, sides[parity], more, others[(many + parity) % 2]) for parity in (0, 1)]
    return (many + more, joined)


def _joined_side(many, one, more, other):
    """The side of both, so many cells and so many more."""
    total, head, tail, best = one
    next_total, next_head, next_tail, next_best = other
    head_worth, head_cells = next_head
    tail_worth, tail_cells = tail
    worth, first, last = next_best
    # A stretch over the seam has the best tail ahead of it and the best head behind it.
    over = (tail_worth + head_worth, tail_cells - many, head_cells - many + 1)
    return (
        total + next_total,
        max(head, (total + head_worth, head_cells - many)),
        max(next_tail, (tail_worth + next_total, tail_cells + more)),
        max(best, over, (worth, first - many, last - many)))
