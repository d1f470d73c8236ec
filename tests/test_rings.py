"""Points 16 to 18: rings, their foldings, what one punch can have of them, and their wishes."""

import unittest
from itertools import combinations, product
from math import comb

from pleatpunch.errors import NoFolds, NoList, NoWish
from pleatpunch.rings import (
    is_ring_folding, is_ring_plan, ring_can_be, ring_counted, ring_fewest, ring_least_folding, ring_places, ring_plan,
    ring_tight, ring_worth)
from pleatpunch.strips import read
from pleatpunch.wishes import fewest, is_plan
from reckoning import (
    arcs_of, every_strip, is_ring_plan_by_words, laid_round, ring_by_arcs, ring_fewest_by_punching,
    ring_foldings_by_list, ring_foldings_of, ring_lists_of, ring_worth_by_words, some_strips, some_wish, wishes_of)

FAR = 10 ** 29
MOST_FIGURES = 10 ** 30 - 1
NO_RING_HAS = (0, 1, -1, -2, -200, 3, 5, 7, 199, 201, 202, 400, FAR, -FAR, FAR + 1, MOST_FIGURES)
SMALL = range(2, 11, 2)
# Of a ring of ten cells: [0, 2, 4, 5, 7, 9] and [1, 4, 5, 8] with one thing otherwise.
NO_FOLDS_OF_TEN = [
    [], [0], [9], [0, 2, 4, 5, 7], [2, 4, 5, 7, 9], [0, 2, 4, 5, 7, 10], [-1, 2, 4, 5, 7, 9], [0, 2, 4, 5, 7, 8],
    [1, 2, 4, 5, 7, 9], [0, 0, 2, 4, 5, 7, 9], [0, 2, 4, 5, 7, 9, 9], [2, 0, 4, 5, 7, 9], [9, 7, 5, 4, 2, 0],
    [0, 2, 4, 5, 9, 7], [0, 2, 4, 5, 7, FAR], [-FAR, 2, 4, 5, 7, 9], [0, 9], [MOST_FIGURES], [5, 5], [4, -1],
    [0, 2, 4, 5, 7, 9, 10], [-1, 0, 2, 4, 5, 7, 9], [0, 2, 4, 5, 7, 9, 10, 11], [-2, -1, 0, 2, 4, 5, 7, 9]]
NO_LISTS_OF_TEN = [
    [], [0], [9], [1, 4, 5], [4, 5, 8], [1, 3, 4, 7], [1, 4, 6, 7], [1, 4, 5, 7], [2, 4, 5, 8], [0, 2], [1, 9],
    [-1, 4, 5, 8], [-FAR - 1, 4, 5, 8], [1, 4, 5, 10], [1, 4, 5, 12], [0, 11], [9, 10], [-1, 0], [-1, 8], [10, 11],
    [1, FAR], [1, 4, 5, FAR], [1, 1, 4, 5, 8], [1, 4, 4, 5], [1, 4, 5, 8, 8], [1, 1], [0, 0], [4, 1, 5, 8],
    [1, 5, 4, 8], [8, 5, 4, 1], [1, 0], [9, 0], [0, MOST_FIGURES]]


def whole(many, left):
    return [(False, left)] * many


def catalan(pairs):
    return comb(2 * pairs, pairs) // (pairs + 1)


def refused(case, error, function, *arguments):
    with case.assertRaises(error) as caught:
        function(*arguments)
    case.assertIs(type(caught.exception), error)


class RingFoldingTest(unittest.TestCase):
    def test_all_rising_lists_of_small_rings(self):
        for many in SMALL:
            good = ring_foldings_of(many)
            self.assertEqual(len(good), comb(many, many // 2) // 2)
            for size in range(many + 1):
                for folds in combinations(range(many), size):
                    self.assertIs(is_ring_folding(many, list(folds)), list(folds) in good, (many, folds))

    def test_every_short_list_as_the_words_say(self):
        for many in (2, 4):
            good = ring_foldings_of(many)
            for size in range(5):
                for folds in product(range(-1, many + 1), repeat=size):
                    self.assertIs(is_ring_folding(many, list(folds)), list(folds) in good, (many, folds))

    def test_ordinary_foldings(self):
        self.assertEqual(ring_foldings_of(2), [[0, 1]])
        for folds in ([0, 2, 4, 5, 7, 9], [4, 9], [0, 5], list(range(10))):
            self.assertIs(is_ring_folding(10, folds), True, folds)

    def test_other_lists_are_none(self):
        for folds in NO_FOLDS_OF_TEN:
            self.assertIs(is_ring_folding(10, folds), False, folds)
            refused(self, NoFolds, ring_places, 10, folds)

    def test_a_many_that_no_ring_has(self):
        for many in NO_RING_HAS:
            for folds in ([], [0], [0, 1], [1, 3], [0, 1, 2, 3], [0, 100], list(range(200)), list(range(202)),
                          [-1], [99, 199], [100, 201]):
                self.assertIs(is_ring_folding(many, folds), False, many)
                refused(self, NoFolds, ring_places, many, folds)

    def test_places_by_walking(self):
        for many in SMALL:
            for folds in ring_foldings_of(many):
                told = ring_places(many, folds)
                self.assertEqual(told, laid_round(many, folds)[0][:-1])
                self.assertEqual([type(told), len(told), type(told[0])], [list, many, int])

    def test_ordinary_places(self):
        self.assertEqual(ring_places(2, [0, 1]), [0, 0])
        self.assertEqual(ring_places(6, [2, 5]), [0, 1, 2, 2, 1, 0])
        self.assertEqual(ring_places(6, [0, 3]), [0, 0, -1, -2, -2, -1])
        self.assertEqual(ring_places(4, [0, 1, 2, 3]), [0, 0, 0, 0])

    def test_two_hundred_cells(self):
        self.assertEqual(ring_places(200, list(range(200))), [0] * 200)
        self.assertEqual(ring_places(200, [99, 199]), [*range(100), *range(99, -1, -1)])
        self.assertEqual(ring_places(200, [0, 100]), [0, *range(0, -100, -1), *range(-99, 0)])
        for folds in ([99, 198], [98, 199], [99, 200], [99], [199], [], list(range(199)), [*range(199), 200]):
            self.assertIs(is_ring_folding(200, folds), False)
            refused(self, NoFolds, ring_places, 200, folds)
        self.assertEqual(ring_places(200, list(range(0, 200, 2))), laid_round(200, list(range(0, 200, 2)))[0][:-1])


class RingListTest(unittest.TestCase):
    def test_every_short_list_as_the_words_say(self):
        for many in (2, 4, 6):
            good = ring_lists_of(range(many))
            for size in range(5):
                for cells in product(range(-1, many + 1), repeat=size):
                    self.assertIs(ring_can_be(many, list(cells)), list(cells) in good, (many, cells))

    def test_just_the_lists_that_lie_at_a_place_alone(self):
        for many in SMALL:
            told = [tuple(cells) for size in range(many + 1) for cells in combinations(range(many), size)
                    if ring_can_be(many, list(cells))]
            self.assertEqual(sorted(told), sorted(ring_foldings_by_list(many)))

    def test_one_thing_otherwise(self):
        self.assertIs(ring_can_be(10, [1, 4, 5, 8]), True)
        for cells in NO_LISTS_OF_TEN:
            self.assertIs(ring_can_be(10, cells), False, cells)
            for function in (ring_least_folding, ring_counted):
                refused(self, NoList, function, 10, cells)

    def test_a_many_that_no_ring_has(self):
        for many in NO_RING_HAS:
            for cells in ([], [0], [0, 1], [1, 2], [0, 199], list(range(200)), [-1, 0]):
                self.assertIs(ring_can_be(many, cells), False, many)
                for function in (ring_least_folding, ring_counted):
                    refused(self, NoList, function, many, cells)

    def test_counted_by_all_foldings(self):
        for many in SMALL:
            for cells, foldings in ring_foldings_by_list(many).items():
                told = ring_counted(many, list(cells))
                self.assertEqual(told, len(foldings), (many, cells))
                self.assertIs(type(told), int)

    def test_the_least_folding_among_all_foldings(self):
        for many in SMALL:
            for cells, foldings in ring_foldings_by_list(many).items():
                told = ring_least_folding(many, list(cells))
                self.assertEqual(type(told), list)
                self.assertIn(told, foldings)
                self.assertEqual([folds for folds in foldings if len(folds) <= len(told)], [told])
                self.assertEqual(len(told), len(cells))
                self.check_lies(many, list(cells))

    def check_lies(self, many, cells):
        """The least folding closes the ring and lays just its list at its first cell's place."""
        folds = ring_least_folding(many, cells)
        self.assertIs(is_ring_folding(many, folds), True)
        laid = ring_places(many, folds)
        self.assertEqual([cell for cell in range(many) if laid[cell] == laid[cells[0]]], cells)

    def test_ordinary_lists(self):
        self.assertEqual(ring_least_folding(10, [1, 4, 5, 8]), [2, 4, 6, 9])
        self.assertEqual(ring_least_folding(10, [4, 9]), [1, 6])
        self.assertEqual(ring_least_folding(10, [0, 1]), [0, 5])
        self.assertEqual(ring_least_folding(10, [8, 9]), [3, 8])
        self.assertEqual(ring_least_folding(10, [0, 9]), [4, 9])
        self.assertEqual(ring_least_folding(10, [3, 8]), [0, 5])
        self.assertEqual(ring_least_folding(2, [0, 1]), [0, 1])
        self.assertEqual([ring_counted(10, cells) for cells in ([1, 4, 5, 8], [4, 9], [0, 1], list(range(10)))],
                         [1, 4, 14, 1])
        self.assertEqual([ring_counted(2, [0, 1]), ring_counted(4, [0, 1]), ring_counted(6, [0, 1])], [1, 1, 2])

    def test_two_hundred_cells(self):
        self.assertEqual(ring_counted(200, [0, 1]), catalan(99))
        self.assertEqual(ring_counted(200, [0, 199]), catalan(99))
        self.assertEqual(ring_counted(200, [50, 151]), catalan(50) * catalan(49))
        self.assertEqual(ring_counted(200, [7, 18, 99, 198]), catalan(5) * catalan(40) * catalan(49) * catalan(4))
        self.assertEqual(ring_counted(200, list(range(200))), 1)
        self.assertEqual(ring_least_folding(200, list(range(200))), list(range(200)))
        self.assertEqual(ring_least_folding(200, [0, 199]), [99, 199])
        self.assertEqual(ring_least_folding(200, [0, 1]), [0, 100])
        self.assertEqual(ring_least_folding(200, [198, 199]), [98, 198])
        for cells in ([0, 1], [0, 199], [50, 151], [7, 18, 99, 198], [100, 199], [99, 198], list(range(200)),
                      list(range(1, 199)), [0, 1, 2, 197]):
            self.assertIs(ring_can_be(200, cells), True)
            self.check_lies(200, cells)
        for cells in ([0, 200], [0], [0, 198], list(range(199)), [-1, 198], list(range(200))[::-1]):
            self.assertIs(ring_can_be(200, cells), False)


class RingWishTest(unittest.TestCase):
    def check(self, ring, wish, least):
        told, tight = ring_fewest(ring, wish), ring_tight(ring, wish)
        self.assertEqual((told, tight), ring_by_arcs(ring, wish), (ring, wish))
        self.assertIs(type(tight), tuple if wish else type(None))
        punches = ring_plan(ring, wish)
        if told is None:
            self.assertIsNone(punches)
        else:
            self.assertEqual(len(punches), told)
            self.assertTrue(is_ring_plan_by_words(ring, wish, punches), (ring, wish, punches))
            self.assertIs(is_ring_plan(ring, wish, punches), True)
        if tight and tight[0] == "arc":
            self.assertEqual(ring_worth(ring, wish, tight), told)
        if tight and tight[0] == "round":
            self.assertGreater(ring_worth(ring, wish, tight), 0)
        if least:
            self.assertEqual(told, ring_fewest_by_punching(ring, wish), (ring, wish))

    def test_every_ring_of_two_cells(self):
        for ring in every_strip(2, 3):
            for wish in wishes_of(ring):
                self.check(ring, wish, True)

    def test_rings_of_four_and_six_cells(self):
        for ring in every_strip(4, 1):
            for wish in wishes_of(ring):
                self.check(ring, wish, True)
        for many, times in ((4, 200), (6, 150)):
            for ring in some_strips(many, 2, times):
                for wish in wishes_of(ring):
                    self.check(ring, wish, True)

    def test_longer_rings_by_their_arcs(self):
        hindered = 0
        for many, most, times in ((8, 2, 60), (8, 5, 60), (12, 3, 60), (20, 4, 40), (30, 9, 20), (60, 6, 2)):
            for at, ring in enumerate(some_strips(many, most, times, 6)):
                wish = some_wish(ring, (0.9, 0.5, 0.2)[at % 3], at)
                self.check(ring, wish, False)
                hindered += ring_fewest(ring, wish) is None
        self.assertGreater(hindered, 5)

    def test_ordinary_wishes(self):
        ring = read("1 1 1 1 1 1")
        self.assertEqual(ring_fewest(ring, [0, 3]), 1)
        self.assertEqual(ring_plan(ring, [0, 3]), [[0, 3]])
        self.assertEqual(ring_tight(ring, [0, 3]), ("arc", 0, 1, 0))
        self.assertIsNone(ring_fewest(ring, [0]))
        self.assertIsNone(ring_plan(ring, [0]))
        self.assertEqual(ring_tight(ring, [0]), ("round", 0))
        self.assertEqual(ring_tight(ring, [1, 2, 3]), ("round", 1))
        self.assertEqual(ring_fewest(read("1 1o 1 2o 1 0o"), [0, 2, 4]), 2)
        self.assertEqual(ring_tight(read("1 1o 1 2o 1 0o"), [0, 2, 4]), ("arc", 4, 3, 0))
        self.assertEqual(ring_tight(read("1 2o 1 2o"), [0, 2]), ("arc", 0, 1, 0))

    def test_arcs_over_the_last_cell(self):
        ring = read("1 2o 0 0 0 2o 1 0")
        self.assertEqual(ring_tight(ring, [0, 6]), ("arc", 6, 3, 0))
        self.assertEqual(ring_fewest(ring, [0, 6]), 2)
        self.assertTrue(is_ring_plan_by_words(ring, [0, 6], ring_plan(ring, [0, 6])))
        turned = read("2o 0 0 0 2o 1 0 1")
        self.assertEqual(ring_tight(turned, [5, 7]), ("arc", 5, 3, 1))
        self.assertEqual(ring_fewest(turned, [5, 7]), 2)

    def test_the_empty_wish(self):
        for ring in (read("0 0"), read("0o 9"), read("9o 0o"), whole(200, 0), [(True, 99)] * 200, read("1o 0o 3o 0o")):
            self.assertEqual(ring_fewest(ring, []), 0)
            self.assertEqual(ring_plan(ring, []), [])
            self.assertIsNone(ring_tight(ring, []))

    def test_torn_goes_ahead_of_round_and_bears_the_first_cell(self):
        for text, wish, told in (
                ("0 1", [0], ("torn", 0)), ("0 0", [0, 1], ("torn", 0)), ("1 0", [0, 1], ("torn", 1)),
                ("1 0 1 0", [0, 1, 2], ("torn", 1)), ("1 1 1 0", [0, 2, 3], ("torn", 3)),
                ("1 1 1 0", [1], ("round", 1)), ("1 1 1 0", [0, 2], ("round", 0)),
                ("1 1 1 1", [0, 1, 2], ("round", 0)), ("1 0o", [0], ("round", 0)),
                ("0o 1", [1], ("round", 1)), ("9 9 9 9", [1, 2, 3], ("arc", 3, 3, 1)),
                ("9 1 2 9", [1, 2, 3], ("arc", 3, 3, 1)), ("9 9 1 9", [1, 2, 3], ("round", 1))):
            ring = read(text)
            self.assertEqual(ring_tight(ring, wish), told)
            if told[0] == "arc":
                self.assertEqual(len(ring_plan(ring, wish)), ring_fewest(ring, wish))
            else:
                self.assertIsNone(ring_fewest(ring, wish))
                self.assertIsNone(ring_plan(ring, wish))

    def test_two_hundred_cells(self):
        even, every = list(range(0, 200, 2)), list(range(200))
        for left in (1, 99):
            ring = whole(200, left)
            self.assertEqual(ring_fewest(ring, every), 1)
            self.assertEqual(ring_plan(ring, every), [every])
            self.assertEqual(ring_tight(ring, every), ("arc", 0, 1, 0))
            self.assertEqual(ring_tight(ring, even), ("round", 0))
            self.assertIsNone(ring_plan(ring, even))
        self.assertEqual(ring_tight(whole(199, 1) + [(False, 0)], every), ("torn", 199))
        ring = [(cell == 101, 99 if cell == 101 else 1) for cell in range(200)]
        self.assertEqual(ring_tight(ring, even), ("round", 0))
        self.assertEqual(ring_fewest(ring, even[1:]), 99)
        self.assertEqual(ring_tight(ring, even[1:]), ("arc", 102, 199, 0))
        punches = ring_plan(ring, even[1:])
        self.assertEqual(sorted(punches), sorted([sorted([cell, 101]) for cell in even[1:]]))
        for seed in range(2):
            ring = some_strips(200, 30, 2, seed)[seed]
            wish = some_wish(ring, 0.5, seed)
            told = ring_plan(ring, wish)
            self.assertEqual(len(told), ring_fewest(ring, wish))
            self.assertTrue(is_ring_plan_by_words(ring, wish, told))
            self.assertEqual(ring_worth_by_words(ring, wish, ring_tight(ring, wish)), len(told))

    def test_begun_elsewhere_and_turned_about(self):
        for many, most, times in ((4, 3, 40), (8, 4, 30), (14, 6, 20), (40, 20, 3)):
            for at, ring in enumerate(some_strips(many, most, times, 8)):
                wish = some_wish(ring, 0.5, at)
                told = ring_fewest(ring, wish)
                self.assertEqual(ring_fewest(ring[::-1], [many - 1 - cell for cell in wish[::-1]]), told)
                for first in (1, 2, many // 2, many - 1):
                    begun = ring[first:] + ring[:first]
                    other = sorted((cell - first) % many for cell in wish)
                    self.assertEqual(ring_fewest(begun, other), told)
                    kinds = [stretch and stretch[0] for stretch in (ring_tight(ring, wish), ring_tight(begun, other))]
                    self.assertEqual(kinds[0], kinds[1])

    def test_opened_behind_a_cell(self):
        for many, most, times in ((4, 3, 40), (8, 4, 30), (14, 6, 20), (40, 20, 3)):
            for at, ring in enumerate(some_strips(many, most, times, 9)):
                wish = some_wish(ring, 0.5, at)
                punches = ring_plan(ring, wish)
                for first in (0, 1, many // 2, many - 1):
                    if punches is not None:
                        strip = ring[first:] + ring[:first]
                        other = sorted((cell - first) % many for cell in wish)
                        opened = [sorted((cell - first) % many for cell in cells) for cells in punches]
                        self.assertIs(is_plan(strip, other, opened), True)
                        self.assertLessEqual(fewest(strip, other), len(punches))


class RingWorthTest(unittest.TestCase):
    def test_all_stretches_by_the_words(self):
        for many, most, times in ((2, 3, 30), (4, 3, 30), (6, 99, 20), (10, 4, 6)):
            for ring in some_strips(many, most, times, 3):
                for wish in wishes_of(ring)[::3]:
                    for stretch in [*arcs_of(many), ("round", 0), ("round", 1)]:
                        told = ring_worth(ring, wish, stretch)
                        self.assertEqual(told, ring_worth_by_words(ring, wish, stretch))
                        self.assertIs(type(told), int)

    def test_ordinary_stretches(self):
        ring = read("3 0o 1 2o 1 1 0 4")
        for stretch, told in ((("arc", 0, 3, 0), 2), (("arc", 0, 1, 0), 1), (("arc", 0, 1, 1), -3),
                              (("arc", 7, 2, 0), 1), (("arc", 4, 7, 0), 3), (("arc", 4, 7, 1), -5),
                              (("arc", 4, 6, 0), 2), (("arc", 3, 7, 0), 0), (("arc", 7, 7, 0), 1),
                              (("round", 0), 1), (("round", 1), -5)):
            self.assertEqual(ring_worth(ring, [0, 2, 4], stretch), told, stretch)

    def test_two_hundred_cells(self):
        ring = [(cell % 4 == 1, 99) for cell in range(200)]
        wish = list(range(0, 200, 2))
        for stretch in (("arc", 0, 199, 0), ("arc", 199, 199, 1), ("arc", 199, 1, 0), ("arc", 150, 101, 1),
                        ("round", 0), ("round", 1)):
            self.assertEqual(ring_worth(ring, wish, stretch), ring_worth_by_words(ring, wish, stretch))


class IsRingPlanTest(unittest.TestCase):
    RING = read("3 0o 1 2o 1 1 0 4o")

    def test_plans(self):
        for wish, punches in (
                ([0, 2, 4], [[0, 3], [2, 3], [4, 7]]), ([0, 2, 4], [[0, 3, 4, 7], [2, 7]]), ([], []),
                ([0, 2, 4], [[0, 7], [2, 7], [4, 7]]),
                ([0, 2, 4], [[4, 7], [2, 7], [0, 7], [0, 3]]), ([0, 5], [[0, 5]]), ([0], [[0, 3], [0, 3], [0, 7]])):
            self.assertIs(is_ring_plan(self.RING, wish, punches), True, (wish, punches))
        holes = read("2o 1o 1 1")
        self.assertIs(is_ring_plan(holes, [], [[0, 1]]), True)
        self.assertIs(is_ring_plan(holes, [3], [[0, 1], [0, 3]]), True)

    def test_one_thing_otherwise(self):
        good = [[0, 3, 4, 7], [2, 7]]
        self.assertIs(is_ring_plan(self.RING, [0, 2, 4], good), True)
        for punches in (
                [], [[0, 3, 4, 7]], [[2, 7]], [*good, []], [*good, [2, 7]], [*good, [4, 7]], [*good, [3, 7]],
                [*good, [7]], [[0, 3, 4, 7], [2]], [[0, 3, 4], [2, 7]], [[0, 3, 4, 6], [2, 7]], [[0, 3, 4, 5], [2, 7]],
                [[0, 1, 4, 7], [2, 7]], [[0, 3, 4, 7], [1, 2]], [[0, 4, 3, 7], [2, 7]], [[0, 3, 3, 4], [2, 7]],
                [[0, 3, 4, 7], [7, 2]], [[0, 3, 4, 7], [2, 9]], [[0, 3, 4, 7], [-1, 2]], [[0, 3, 4, 7], [2, FAR + 1]],
                [[0, 3, 4, 7], [-MOST_FIGURES, 2]], [[0, 3, 4, 7], [2, 7], [0, 3], [0, 3]],
                [[0, 3, 4, 7], [2, 7], [0, 7], [0, 7], [0, 7]], [*good, [8, 9]], [*good, [-2, -1]], [*good, [0, 8]]):
            self.assertIs(is_ring_plan(self.RING, [0, 2, 4], punches), False, punches)
        for wish, punches in (([], [[]]), ([], [[0, 3]]), ([], [[7]]), ([6], [[6, 7]]), ([0, 5], [[0, 3]]),
                              ([0], [[3, 4]])):
            self.assertIs(is_ring_plan(self.RING, wish, punches), False, (wish, punches))

    def test_all_short_plans_by_the_words(self):
        lists = [list(cells) for size in range(3) for cells in product(range(-1, 5), repeat=size)]
        for ring in (read("1 1o 2 2o"), read("2 1 1 1"), read("1o 2")):
            for wish in wishes_of(ring):
                for size in range(3):
                    for punches in product(lists, repeat=size):
                        self.assertIs(is_ring_plan(ring, wish, list(punches)),
                                      is_ring_plan_by_words(ring, wish, list(punches))
                                      and all(cell < len(ring) for cells in punches for cell in cells))

    def test_a_strip_that_no_ring_is(self):
        self.assertIs(is_ring_plan(read("1 1 1"), [0, 1], [[0, 1]]), False)
        self.assertIs(is_ring_plan(whole(201, 1), [0, 1], [[0, 1]]), False)

    def test_four_hundred_punches(self):
        ring = [(cell != 1, 99) for cell in range(10)]
        punches = [[0, 1]] * 99 + [[2, 3]] * 99 + [[4, 5]] * 99 + [[6, 7]] * 99 + [[8, 9]] * 4
        self.assertEqual(len(punches), 400)
        self.assertIs(is_ring_plan(ring, [1], punches), True)
        self.assertIs(is_ring_plan(ring, [1], [*punches[:-1], [6, 7]]), False)
        self.assertIs(is_ring_plan(ring, [1], [*punches[:-1], [8]]), False)

    def test_two_hundred_cells(self):
        cells = list(range(200))
        self.assertIs(is_ring_plan(whole(200, 99), cells, [cells] * 99), True)
        self.assertIs(is_ring_plan(whole(200, 99), cells, [cells] * 100), False)
        self.assertIs(is_ring_plan(whole(200, 99), cells, [cells[:-1]]), False)
        self.assertIs(is_ring_plan(whole(200, 99), cells, [cells[1:-1], [0, 199]]), True)


class RingNoWishTest(unittest.TestCase):
    ASKS = (ring_fewest, ring_plan, ring_tight, lambda ring, wish: ring_worth(ring, wish, ("round", 0)),
            lambda ring, wish: ring_worth(ring, wish, ("arc", 0, 1, 0)),
            lambda ring, wish: is_ring_plan(ring, wish, []), lambda ring, wish: is_ring_plan(ring, wish, [[]]))

    def test_what_is_no_wish(self):
        ring = read("3 0o 1 2o 1 1 0 4")
        for wish in ([1], [3], [0, 1, 2], [0, 0], [2, 0], [7, 5], [-1], [-8], [8], [0, 8], [200], [FAR], [-FAR, 0],
                     [MOST_FIGURES], [2, 4, 4]):
            for ask in self.ASKS:
                refused(self, NoWish, ask, ring, wish)

    def test_ahead_of_what_hinders(self):
        for ask in self.ASKS:
            refused(self, NoWish, ask, read("0 1o"), [0, 1])
            refused(self, NoWish, ask, read("0 0"), [1, 0])
            refused(self, NoWish, ask, whole(200, 1), [200])
            refused(self, NoWish, ask, whole(200, 0), [0, *range(200)])


if __name__ == "__main__":
    unittest.main()
