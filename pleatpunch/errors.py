"""The refusals of the program, one class for each kind."""


class NoText(ValueError):
    """The text is none of a strip."""


class NoFolds(ValueError):
    """The list is no folding of so many cells."""


class NoWish(ValueError):
    """The list is no wish of the strip."""


class NoPlace(LookupError):
    """No cell lies at the place."""


class NoCell(LookupError):
    """There is no such cell."""


class Whole(ValueError):
    """The cell is whole: there is nothing to patch."""


class NoMark(KeyError):
    """The mark does not stand."""


class NoList(ValueError):
    """The list of cells can't be had by one punch."""


class Torn(ValueError):
    """A cell that would be punched has no pass left."""

    def __init__(self, cell):
        ValueError.__init__(self, f"cell {cell} has no pass left")
        self.cell = cell


class NoPlan(ValueError):
    """The wish has no plan: a wished cell has no passes."""

    def __init__(self, cell):
        ValueError.__init__(self, f"wished cell {cell} has no passes")
        self.cell = cell


class TooMany(ValueError):
    """There are more than are told."""

    def __init__(self, many):
        ValueError.__init__(self, f"{many} are too many to be told")
        self.many = many
