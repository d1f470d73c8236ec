"""A paper at work: a strip that is punched and patched, with marks to which all is undone."""

from pleatpunch.errors import NoCell, NoMark, NoPlace, NoPlan, Torn, Whole
from pleatpunch.foldings import cells_at
from pleatpunch.wishes import fewest, plan, tight


class Paper:
    """A strip of so many cells, whole at first, each with so many passes."""

    def __init__(self, many, left):
        self._cells = [(False, left)] * many
        self._counts = [0] * many
        # For each mark that stands the cells and the counts when it was made.
        self._marks = []

    def punch(self, folds, place):
        """The cells punched at the place; NoFolds of no folding, NoPlace where no cell lies, Torn without a pass."""
        cells = cells_at(len(self._cells), folds, place)
        # The messages leave out what was handed in: a number of very many figures can't be shown.
        if len(cells) == 0:
            raise NoPlace("no cell lies at the place")
        for cell in cells:
            _, left = self._cells[cell]
            if left == 0:
                raise Torn(cell)
        self._pass_through(cells)
        return cells

    def patch(self, cell):
        """Makes the cell whole, its passes stay; NoCell where there is none, Whole where it is."""
        if not 0 <= cell < len(self._cells):
            raise NoCell("no cell to patch")
        holed, left = self._cells[cell]
        if not holed:
            raise Whole("the cell is whole")
        self._cells[cell] = (False, left)

    def do(self, wish):
        """The punches of the told plan, punched; NoWish of what is no wish, NoPlan where there is no plan."""
        punches = plan(self._cells, wish)
        if punches is None:
            raise NoPlan(tight(self._cells, wish))
        for cells in punches:
            self._pass_through(cells)
        return punches

    def mark(self):
        """The number of a new mark."""
        self._marks.append((list(self._cells), list(self._counts)))
        return len(self._marks) - 1

    def undo(self, mark):
        """Makes all as it was at the mark, and the later marks gone; NoMark where it does not stand."""
        if not 0 <= mark < len(self._marks):
            raise NoMark("the mark does not stand")
        cells, counts = self._marks[mark]
        self._cells = list(cells)
        self._counts = list(counts)
        self._marks = self._marks[:mark + 1]

    def strip(self):
        """The strip as it is."""
        return list(self._cells)

    def fewest(self, wish):
        """The fewest punches of the wish, or None without a plan; NoWish of what is no wish."""
        return fewest(self._cells, wish)

    def counts(self):
        """How often each cell was punched, but for what is undone."""
        return list(self._counts)

    def _pass_through(self, cells):
        """One punch through the cells: each has a pass less and is holed."""
        for cell in cells:
            _, left = self._cells[cell]
            self._cells[cell] = (True, left - 1)
            self._counts[cell] += 1
