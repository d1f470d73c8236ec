"""Points 6 and 7: what one punch can have, and by which foldings."""

import unittest
from itertools import product

from pleatpunch.errors import NoList, TooMany
from pleatpunch.foldings import cells_at, is_folding, places
from pleatpunch.punches import all_foldings, can_be, counted, creased, least_folding, odd_ones, ways
from reckoning import foldings_by_list, lists_of

FAR = 10 ** 29
MOST_FIGURES = 10 ** 30 - 1
NO_STRIP_HAS = (0, -1, -2, -200, 201, 202, 400, FAR, -FAR, MOST_FIGURES)
# Of a strip of ten cells: [1, 4, 5, 8] with one thing otherwise.
NOT_TO_BE_HAD = [
    [],
    [1, 3, 4, 7], [1, 4, 6, 7], [1, 4, 5, 7], [1, 4, 5, 9], [2, 4, 5, 8], [3, 4, 5, 9],
    [-1, 4, 5, 8], [-3, 4, 5, 8], [-FAR, 1, 4, 5, 8], [-MOST_FIGURES, 1], [-1], [-2],
    [1, 4, 5, 10], [1, 4, 5, 12], [10], [11], [9, 10], [FAR], [1, FAR], [1, 4, 5, MOST_FIGURES - 1],
    [MOST_FIGURES], [1, MOST_FIGURES - 1],
    [1, 1, 4, 5, 8], [1, 4, 4, 5, 8], [1, 4, 5, 8, 8], [1, 1], [0, 0],
    [4, 1, 5, 8], [1, 5, 4, 8], [1, 4, 8, 5], [8, 5, 4, 1], [1, 0], [9, 0],
]


def refused(case, error, function, *arguments):
    """The error of just that class that the call raises."""
    with case.assertRaises(error) as caught:
        function(*arguments)
    case.assertIs(type(caught.exception), error)
    case.assertEqual(type(caught.exception).__name__, error.__name__)
    return caught.exception


class CanBeTest(unittest.TestCase):
    def test_ordinary_lists(self):
        for cells in ([1, 4, 5, 8], [0], [9], [0, 9], [0, 1], [8, 9], [3, 6], list(range(10))):
            self.assertIs(can_be(10, cells), True, cells)

    def test_one_thing_otherwise(self):
        for cells in NOT_TO_BE_HAD:
            self.assertIs(can_be(10, cells), False, cells)

    def test_every_short_list_as_the_words_say(self):
        numbers = range(-2, 6)
        for many in range(-1, 6):
            good = lists_of(range(many)) if many > 0 else []
            for size in range(4):
                for cells in product(numbers, repeat=size):
                    self.assertIs(can_be(many, list(cells)), list(cells) in good, (many, cells))

    def test_just_the_lists_that_lie_at_a_place_alone(self):
        for many in range(1, 9):
            told = [cells for cells in lists_of(range(many)) if can_be(many, cells)]
            self.assertEqual(sorted(told), sorted(list(cells) for cells in foldings_by_list(many)))

    def test_strips_of_one_cell_and_of_the_most(self):
        self.assertIs(can_be(1, [0]), True)
        for cells in ([], [1], [-1], [0, 1], [0, 0]):
            self.assertIs(can_be(1, cells), False)
        for cells in ([0], [199], [0, 199], [0, 1, 198, 199], list(range(200))):
            self.assertIs(can_be(200, cells), True)
        for cells in ([200], [0, 198], [1, 199], [*range(200), 200], [-1, *range(200)], [*range(199), 198]):
            self.assertIs(can_be(200, cells), False)

    def test_a_many_that_no_strip_has(self):
        for many in NO_STRIP_HAS:
            for cells in ([], [0], [0, 1], [-1], [199], [200]):
                self.assertIs(can_be(many, cells), False)


class OddOnesTest(unittest.TestCase):
    def test_the_first_two_that_are_not_an_odd_distance_apart(self):
        self.assertEqual(odd_ones([1, 3]), (1, 3))
        self.assertEqual(odd_ones([1, 4, 6, 8]), (4, 6))
        self.assertEqual(odd_ones([0, 2, 5, 7]), (0, 2))
        self.assertEqual(odd_ones([0, 1, 2, 5, 7]), (5, 7))
        self.assertEqual(odd_ones([0, 198]), (0, 198))
        self.assertEqual(odd_ones([0, 1, FAR + 1]), (1, FAR + 1))
        self.assertIs(type(odd_ones([1, 3])), tuple)

    def test_none(self):
        for cells in ([], [0], [7], [199], [0, 1], [1, 4, 5, 8], list(range(200)), [0, 199], [FAR], [0, FAR + 1]):
            self.assertIsNone(odd_ones(cells))

    def test_of_all_rising_lists(self):
        for size in range(1 << 7):
            cells = [cell for cell in range(7) if size >> cell & 1]
            pairs = [pair for pair in zip(cells, cells[1:]) if pair[0] % 2 == pair[1] % 2]
            self.assertEqual(odd_ones(cells), pairs[0] if pairs else None)


class AgainstAllFoldingsTest(unittest.TestCase):
    def test_all_told_of_small_strips(self):
        for many in range(1, 9):
            for listed, foldings in foldings_by_list(many).items():
                cells = list(listed)
                self.assertEqual(counted(many, cells), len(foldings), (many, cells))
                self.assertEqual(all_foldings(many, cells), foldings)
                self.assertEqual(creased(many, cells), [sum(crease in folds for folds in foldings)
                                                        for crease in range(many - 1)], (many, cells))
                fewest = min(len(folds) for folds in foldings)
                self.assertEqual([folds for folds in foldings if len(folds) == fewest], [least_folding(many, cells)])

    def test_longer_strips_in_samples(self):
        for many, step in ((10, 3), (11, 7), (12, 17)):
            for listed, foldings in sorted(foldings_by_list(many).items())[::step]:
                cells = list(listed)
                self.assertEqual(counted(many, cells), len(foldings))
                self.assertEqual(all_foldings(many, cells), foldings)
                self.assertEqual(creased(many, cells), [sum(crease in folds for folds in foldings)
                                                        for crease in range(many - 1)])


class LeastFoldingTest(unittest.TestCase):
    def test_ordinary_lists(self):
        self.assertEqual(least_folding(10, [1, 4, 5, 8]), [2, 4, 6])
        self.assertEqual(least_folding(6, [0, 5]), [2])
        self.assertEqual(least_folding(6, [3]), [])
        self.assertEqual(least_folding(4, [0, 1, 2, 3]), [0, 1, 2])

    def test_edges(self):
        self.assertEqual(least_folding(1, [0]), [])
        self.assertEqual(least_folding(200, [0, 199]), [99])
        self.assertEqual(least_folding(200, list(range(200))), list(range(199)))
        self.assertEqual(least_folding(200, [199]), [])

    def test_the_list_lies_at_its_place(self):
        for cells in ([7, 10, 33, 34, 199], [0, 199], [100], list(range(3, 200, 7))):
            folds = least_folding(200, cells)
            self.assertIs(is_folding(200, folds), True)
            self.assertEqual(cells_at(200, folds, places(200, folds)[cells[0]]), cells)


class CountedTest(unittest.TestCase):
    def test_ordinary_lists(self):
        self.assertEqual(counted(4, [0, 3]), 1)
        self.assertEqual(counted(6, [0, 5]), 2)
        self.assertEqual(counted(8, [0, 7]), 5)
        self.assertEqual(counted(5, [2]), 4)
        self.assertEqual(counted(1, [0]), 1)
        self.assertEqual(counted(2, [0]), 1)
        self.assertEqual(counted(2, [0, 1]), 1)

    def test_all_cells(self):
        for many in (1, 2, 3, 199, 200):
            self.assertEqual(counted(many, list(range(many))), 1)
            self.assertEqual(all_foldings(many, list(range(many))), [list(range(many - 1))])
            self.assertEqual(creased(many, list(range(many))), [1] * (many - 1))

    def test_strips_of_the_most_cells(self):
        # Stepped here with the height above the place and the way gone, not by binomials.
        def tails(steps, back):
            heights = {(0, 1): 1}
            left = []
            for _ in range(steps):
                following = {}
                for (height, way), times in heights.items():
                    for state in ((height + way, way), (height, -way)):
                        if state[0] > 0:
                            following[state] = following.get(state, 0) + times
                left.append(heights.get((1, -1), 0) + (heights.get((0, 1), 0) if len(left) == 0 else 0))
                heights = following
            return left[-1] if back else sum(heights.values())

        self.assertEqual(counted(200, [0]), tails(199, False))
        self.assertEqual(counted(200, [100]), tails(100, False) * tails(99, False))
        self.assertEqual(counted(200, [0, 199]), tails(199, True))
        self.assertEqual(counted(200, [50, 101, 160]), tails(50, False) * tails(51, True) * tails(59, True)
                         * tails(39, False))
        self.assertGreater(counted(200, [0]), 10 ** 57)

    def test_creased_of_the_most_cells(self):
        cells = [40, 71, 110, 111, 160]
        told = creased(200, cells)
        total = counted(200, cells)
        self.assertEqual(len(told), 199)
        self.assertEqual([crease for crease in range(199) if told[crease] == total], [110])
        self.assertEqual([crease for crease in range(199) if told[crease] == 0],
                         [39, 40, 70, 71, 109, 111, 159, 160])
        self.assertEqual(creased(200, [0, 199])[::-1], creased(200, [0, 199]))
        self.assertEqual(creased(200, [0]), creased(200, [199])[::-1])

    def test_creased_of_longer_strips_by_all_their_foldings(self):
        for many, cells in ((20, [2, 9, 16]), (23, [5, 12, 17]), (17, [0, 15]), (13, [6]), (12, [0]), (12, [11])):
            foldings = all_foldings(many, cells)
            self.assertEqual(creased(many, cells), [sum(crease in folds for folds in foldings)
                                                    for crease in range(many - 1)])

    def test_creased_of_few_cells(self):
        self.assertEqual(creased(1, [0]), [])
        self.assertEqual(creased(2, [0]), [0])
        self.assertEqual(creased(2, [1]), [0])
        self.assertEqual(creased(2, [0, 1]), [1])
        self.assertEqual(creased(4, [0, 3]), [0, 1, 0])


class AllFoldingsTest(unittest.TestCase):
    def test_just_a_thousand(self):
        self.assertEqual(counted(23, [5, 12, 17]), 1000)
        told = all_foldings(23, [5, 12, 17])
        self.assertEqual(len(told), 1000)
        self.assertEqual(told, sorted(told))
        self.assertEqual(len({tuple(folds) for folds in told}), 1000)
        for folds in told:
            self.assertIs(is_folding(23, folds), True)
            self.assertEqual(cells_at(23, folds, places(23, folds)[5]), [5, 12, 17])

    def test_a_thousand_on_the_longest_strip(self):
        cells = [5, 12, 17, *range(18, 195)]
        self.assertEqual(counted(200, cells), 1000)
        told = all_foldings(200, cells)
        self.assertEqual(len(told), 1000)
        self.assertTrue(all(one < other for one, other in zip(told, told[1:])))

    def test_more_than_a_thousand(self):
        for many, cells in ((25, [9, 14, 19, 24]), (15, [0]), (200, [0]), (200, [100]), (200, [0, 199])):
            total = counted(many, cells)
            self.assertGreater(total, 1000)
            error = refused(self, TooMany, all_foldings, many, cells)
            self.assertEqual(error.many, total)
            self.assertIs(type(error.many), int)
        self.assertEqual(counted(25, [9, 14, 19, 24]), 1008)

    def test_few_foldings_of_the_longest_strip(self):
        cells = list(range(2, 200, 3))
        least = least_folding(200, cells)
        self.assertEqual(all_foldings(200, cells), [[0, *least], [0, *least, 198], least, [*least, 198]])


class WaysTest(unittest.TestCase):
    def test_ordinary_plans(self):
        self.assertEqual(ways(10, [[1, 4, 5, 8], [3]]), [([2, 4, 6], 1), ([], 3)])
        self.assertEqual(ways(6, [[0, 5]]), [([2], 0)])
        self.assertEqual(ways(6, [[0, 5], [0, 5]]), [([2], 0), ([2], 0)])
        self.assertEqual(ways(6, []), [])
        self.assertEqual(ways(1, [[0]] * 400), [([], 0)] * 400)

    def test_the_kinds_of_what_is_told(self):
        told = ways(10, [[1, 4]])
        self.assertEqual([type(told), type(told[0]), type(told[0][0]), type(told[0][1])], [list, tuple, list, int])

    def test_the_punch_at_the_place_has_the_list(self):
        for many in (1, 7, 200):
            plan = [cells for cells in ([0], [many - 1], list(range(many)), [many // 2]) if cells]
            for cells, (folds, place) in zip(plan, ways(many, plan)):
                self.assertEqual(folds, least_folding(many, cells))
                self.assertEqual(cells_at(many, folds, place), cells)

    def test_a_list_that_cannot_be_had(self):
        good = [[1, 4, 5, 8], [0], [2, 9]]
        for bad in NOT_TO_BE_HAD:
            for at in range(4):
                refused(self, NoList, ways, 10, [*good[:at], bad, *good[at:]])


class NoListTest(unittest.TestCase):
    def test_lists_that_cannot_be_had(self):
        for function in (least_folding, counted, all_foldings, creased):
            for cells in NOT_TO_BE_HAD:
                refused(self, NoList, function, 10, cells)
            for many in NO_STRIP_HAS:
                for cells in ([], [0], [0, 1], [199]):
                    refused(self, NoList, function, many, cells)
        for many in NO_STRIP_HAS:
            refused(self, NoList, ways, many, [[0]])

    def test_refused_ahead_of_too_many(self):
        refused(self, NoList, all_foldings, 200, [0, 2])
        refused(self, NoList, all_foldings, 201, [0])


if __name__ == "__main__":
    unittest.main()
