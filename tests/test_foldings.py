"""Point 5, and point 2 as far as pleatpunch.foldings goes."""

import unittest
from itertools import combinations

from pleatpunch.errors import NoFolds
from pleatpunch.foldings import cells_at, is_folding, places, stacks

FAR = 10 ** 29
NO_STRIP_HAS = (0, -1, -2, 201, 202, 400, FAR, -FAR, 10 ** 5000, -10 ** 5000)
NONE_OF_FIVE = [
    [-1], [4], [5], [6], [FAR], [-FAR], [10 ** 5000],
    [-1, 0], [0, 4], [0, 1, 2, 3, 4], [-5, -4], [1, -1],
    [0, 0], [2, 2], [3, 3], [0, 1, 1], [0, 1, 1, 2],
    [1, 0], [3, 2, 1, 0], [0, 2, 1], [1, 2, 0],
]


def all_foldings(many):
    """All rising lists of creases of so many cells."""
    return [list(folds) for size in range(many)
            for folds in combinations(range(many - 1), size)]


def place_by_counting(cell, folds):
    """The place by the parity of the creases ahead of each step, not by a walk."""
    return sum((-1) ** len([crease for crease in folds if crease < step])
               for step in range(cell) if step not in folds)


class IsFoldingTest(unittest.TestCase):
    def test_every_rising_list_is_one(self):
        for many in range(1, 9):
            for folds in all_foldings(many):
                self.assertIs(is_folding(many, folds), True)

    def test_every_short_list_as_the_words_say(self):
        numbers = range(-1, 5)
        lists = [[]] + [[a] for a in numbers] + [[a, b] for a in numbers for b in numbers]
        lists += [[a, b, c] for a in numbers for b in numbers for c in numbers]
        for many in range(-1, 6):
            good = all_foldings(many)
            for folds in lists:
                self.assertIs(is_folding(many, folds), folds in good, (many, folds))

    def test_no_crease_and_all_creases(self):
        for many in (1, 2, 3, 199, 200):
            self.assertIs(is_folding(many, []), True)
            self.assertIs(is_folding(many, list(range(many - 1))), True)
            self.assertIs(is_folding(many, list(range(many))), False)

    def test_one_cell_has_no_crease(self):
        self.assertIs(is_folding(1, []), True)
        for crease in (-1, 0, 1):
            self.assertIs(is_folding(1, [crease]), False)

    def test_the_last_crease(self):
        for many in (2, 3, 199, 200):
            self.assertIs(is_folding(many, [many - 2]), True)
            for crease in (many - 1, many, many + 1, -1, FAR, -FAR):
                self.assertIs(is_folding(many, [crease]), False)

    def test_other_lists_are_none(self):
        for folds in NONE_OF_FIVE:
            self.assertIs(is_folding(5, folds), False, folds)
        self.assertIs(is_folding(200, list(range(199)) * 2), False)
        self.assertIs(is_folding(200, list(range(199))[::-1]), False)
        self.assertIs(is_folding(200, [*range(199), 198]), False)

    def test_a_many_that_no_strip_has(self):
        for many in NO_STRIP_HAS:
            for folds in ([], [0], [1, 3], [-1], [199]):
                self.assertIs(is_folding(many, folds), False)


class PlacesTest(unittest.TestCase):
    def test_no_crease(self):
        for many in (1, 2, 3, 199, 200):
            self.assertEqual(places(many, []), list(range(many)))
            self.assertEqual(stacks(many, []), [[cell] for cell in range(many)])
            self.assertEqual(cells_at(many, [], many - 1), [many - 1])

    def test_all_creases(self):
        for many in (1, 2, 3, 199, 200):
            folds = list(range(many - 1))
            self.assertEqual(places(many, folds), [0] * many)
            self.assertEqual(stacks(many, folds), [list(range(many))])
            self.assertEqual(cells_at(many, folds, 0), list(range(many)))

    def test_one_crease(self):
        self.assertEqual(places(2, [0]), [0, 0])
        self.assertEqual(places(6, [2]), [0, 1, 2, 2, 1, 0])
        self.assertEqual(cells_at(6, [2], 1), [1, 4])
        self.assertEqual(stacks(6, [2]), [[0, 5], [1, 4], [2, 3]])

    def test_places_below_nought(self):
        self.assertEqual(places(5, [0]), [0, 0, -1, -2, -3])
        self.assertEqual(stacks(5, [0]), [[4], [3], [2], [0, 1]])
        self.assertEqual(cells_at(5, [0], -2), [3])
        self.assertEqual(cells_at(5, [0], -3), [4])
        self.assertEqual(places(200, [0])[-1], -198)
        self.assertEqual(stacks(200, [0])[0], [199])

    def test_several_creases(self):
        self.assertEqual(places(8, [1, 3]), [0, 1, 1, 0, 0, 1, 2, 3])
        self.assertEqual(stacks(8, [1, 3]), [[0, 3, 4], [1, 2, 5], [6], [7]])
        self.assertEqual(places(7, [0, 1, 4]), [0, 0, 0, 1, 2, 2, 1])
        self.assertEqual(stacks(7, [0, 1, 4]), [[0, 1, 2], [3, 6], [4, 5]])
        self.assertEqual(places(7, [0, 3]), [0, 0, -1, -2, -2, -1, 0])
        self.assertEqual(stacks(7, [0, 3]), [[3, 4], [2, 5], [0, 1, 6]])

    def test_no_cell_lies_there(self):
        for place in (3, 4, -1, -2, FAR, -FAR, 10 ** 5000):
            self.assertEqual(cells_at(6, [2], place), [])
        self.assertEqual(cells_at(5, [0], 1), [])
        self.assertEqual(cells_at(5, [0], -4), [])

    def test_every_folding_of_few_cells(self):
        for many in range(1, 9):
            for folds in all_foldings(many):
                laid = [place_by_counting(cell, folds) for cell in range(many)]
                self.assertEqual(places(many, folds), laid)
                levels = range(min(laid), max(laid) + 1)
                piles = [[cell for cell in range(many) if laid[cell] == level] for level in levels]
                self.assertEqual(stacks(many, folds), piles)
                for place in range(-many - 1, many + 2):
                    told = piles[place - min(laid)] if place in levels else []
                    self.assertEqual(cells_at(many, folds, place), told)

    def test_the_longest_strip(self):
        for step in (1, 2, 3, 7, 50, 198):
            folds = list(range(0, 199, step))
            laid = [place_by_counting(cell, folds) for cell in range(200)]
            self.assertEqual(places(200, folds), laid)
            piles = stacks(200, folds)
            self.assertEqual(len(piles), max(laid) - min(laid) + 1)
            self.assertEqual(sorted(sum(piles, [])), list(range(200)))
            self.assertEqual(piles[0], cells_at(200, folds, min(laid)))
            self.assertEqual(piles[-1], cells_at(200, folds, max(laid)))

    def test_the_kinds_of_what_is_told(self):
        self.assertIs(type(places(3, [0])), list)
        self.assertIs(type(cells_at(3, [0], 5)), list)
        self.assertEqual([type(pile) for pile in stacks(3, [0])], [list, list])


class NoFoldsTest(unittest.TestCase):
    def refused(self, many, folds):
        for ask in (lambda: places(many, folds), lambda: cells_at(many, folds, 0),
                    lambda: cells_at(many, folds, FAR), lambda: stacks(many, folds)):
            with self.assertRaises(NoFolds) as caught:
                ask()
            self.assertIs(type(caught.exception), NoFolds)
            self.assertIsInstance(caught.exception, ValueError)

    def test_lists_that_are_none(self):
        for folds in NONE_OF_FIVE:
            self.refused(5, folds)
        for many in (1, 2, 199, 200):
            self.refused(many, [many - 1])
            self.refused(many, [-1])

    def test_a_many_that_no_strip_has(self):
        for many in NO_STRIP_HAS:
            self.refused(many, [])
            self.refused(many, [0])

    def test_what_is_refused_is_not_changed(self):
        folds = [3, 1]
        self.refused(5, folds)
        self.assertEqual(folds, [3, 1])


class AskersOwnTest(unittest.TestCase):
    def test_nothing_that_is_handed_in_is_changed(self):
        folds = [1, 3]
        is_folding(8, folds)
        places(8, folds)
        cells_at(8, folds, 0)
        stacks(8, folds)
        self.assertEqual(folds, [1, 3])

    def test_told_lists_are_new_ones(self):
        folds = [1, 3]
        for ask in (lambda: places(8, folds), lambda: cells_at(8, folds, 0),
                    lambda: cells_at(8, folds, 9), lambda: stacks(8, folds)):
            before = ask()
            spoiled = ask()
            self.assertIsNot(before, spoiled)
            spoiled.append(77)
            spoiled[0] = 78
            self.assertNotEqual(before, spoiled)
            self.assertEqual(ask(), before)
        self.assertEqual(folds, [1, 3])

    def test_told_lists_within_a_list_are_new_ones(self):
        first = stacks(8, [1, 3])
        second = stacks(8, [1, 3])
        for pile in first:
            pile.append(77)
        self.assertEqual(second, [[0, 3, 4], [1, 2, 5], [6], [7]])
        self.assertEqual(stacks(8, [1, 3]), second)
        self.assertEqual([len(pile) for pile in first], [4, 4, 2, 2])

    def test_a_list_that_was_changed_is_looked_at_anew(self):
        folds = [2]
        self.assertIs(is_folding(6, folds), True)
        self.assertEqual(places(6, folds), [0, 1, 2, 2, 1, 0])
        self.assertEqual(cells_at(6, folds, 0), [0, 5])
        self.assertEqual(stacks(6, folds), [[0, 5], [1, 4], [2, 3]])
        folds[0] = 0
        self.assertEqual(places(6, folds), [0, 0, -1, -2, -3, -4])
        self.assertEqual(cells_at(6, folds, 0), [0, 1])
        self.assertEqual(stacks(6, folds), [[5], [4], [3], [2], [0, 1]])
        folds.append(5)
        self.assertIs(is_folding(6, folds), False)
        self.assertRaises(NoFolds, places, 6, folds)
        self.assertRaises(NoFolds, cells_at, 6, folds, 0)
        self.assertRaises(NoFolds, stacks, 6, folds)
        folds.clear()
        self.assertEqual(places(6, folds), [0, 1, 2, 3, 4, 5])

    def test_arguments_by_their_names(self):
        self.assertIs(is_folding(folds=[2], many=6), True)
        self.assertIs(is_folding(6, folds=[5]), False)
        self.assertEqual(places(folds=[2], many=6), [0, 1, 2, 2, 1, 0])
        self.assertEqual(cells_at(place=1, folds=[2], many=6), [1, 4])
        self.assertEqual(cells_at(6, place=1, folds=[2]), [1, 4])
        self.assertEqual(stacks(folds=[2], many=6), [[0, 5], [1, 4], [2, 3]])


if __name__ == "__main__":
    unittest.main()
