"""Points 8 to 10, and what point 15 says of the fewest of glued strips."""

import unittest
from itertools import product

from pleatpunch.errors import NoWish
from pleatpunch.strips import glued, read, turned
from pleatpunch.wishes import fewest, is_plan, plan, tight, worth
from reckoning import (
    every_strip, fewest_by_punching, fewest_by_stretches, is_plan_by_words, lists_of, plan_by_words, some_strips,
    some_wish, stretches_of, tight_by_stretches, wishes_of, worth_by_words)

FAR = 10 ** 29
MOST_FIGURES = 10 ** 30 - 1
WORN = read("3 0o 1 2o 1 1 0 4")
# Of WORN: holed ones, cells twice, exchanged, ones that no strip has.
NO_WISHES = [
    [1], [3], [0, 1, 2], [0, 3], [1, 2], [0, 0], [2, 4, 4], [2, 0], [0, 4, 2], [7, 5],
    [-1], [-8], [-1, 0], [8], [0, 8], [9], [200], [FAR], [-FAR], [0, FAR], [MOST_FIGURES], [-MOST_FIGURES, 0],
]
ASKS = {
    "fewest": fewest, "plan": plan, "tight": tight,
    "worth": lambda strip, wish: worth(strip, wish, (0, 0, 0)),
    "is_plan": lambda strip, wish: is_plan(strip, wish, []),
    "is_plan of what is none": lambda strip, wish: is_plan(strip, wish, [[]]),
}


def whole(many, left):
    return [(False, left)] * many


class SmallStripsTest(unittest.TestCase):
    def check(self, strip, wish):
        told = fewest(strip, wish)
        self.assertEqual(told, fewest_by_punching(strip, wish), (strip, wish))
        self.assertEqual(told, fewest_by_stretches(strip, wish))
        punches = plan(strip, wish)
        if told is None:
            self.assertIsNone(punches)
            return
        self.assertEqual(len(punches), told)
        self.assertTrue(is_plan_by_words(strip, wish, punches), (strip, wish, punches))
        self.assertIs(is_plan(strip, wish, punches), True)
        self.assertEqual(punches, plan_by_words(strip, wish, told), (strip, wish))

    def test_every_strip_of_up_to_three_cells(self):
        for many, most in ((1, 3), (2, 3), (3, 2)):
            for strip in every_strip(many, most):
                for wish in wishes_of(strip):
                    self.check(strip, wish)

    def test_strips_of_up_to_six_cells(self):
        for many, times in ((4, 60), (5, 30), (6, 12)):
            for strip in some_strips(many, 3, times):
                for wish in wishes_of(strip):
                    self.check(strip, wish)
        for many in (5, 6):
            for strip in some_strips(many, 1, 60):
                wishes = wishes_of(strip)
                for wish in wishes[-1:] + wishes[::5]:
                    self.check(strip, wish)

    def test_the_plan_of_longer_strips_is_the_walks(self):
        for many, most, times in ((7, 3, 40), (12, 2, 40), (25, 4, 25), (60, 2, 10), (200, 1, 2), (200, 9, 2)):
            for at, strip in enumerate(some_strips(many, most, times)):
                wish = some_wish(strip, (0.9, 0.5, 0.2)[at % 3], at)
                told = fewest(strip, wish)
                punches = plan(strip, wish)
                self.assertEqual(punches, plan_by_words(strip, wish, told))
                self.assertTrue(is_plan_by_words(strip, wish, punches))


class FewestTest(unittest.TestCase):
    def test_ordinary_wishes(self):
        self.assertEqual(fewest(read("1 1 1 1"), [0, 1, 2, 3]), 1)
        self.assertEqual(fewest(read("1 1 1 1"), [0, 2]), 2)
        self.assertEqual(fewest(read("1 1o 1 1"), [0, 2]), 1)
        self.assertEqual(fewest(read("1 0o 1 1"), [0, 2]), 2)
        self.assertEqual(fewest(WORN, [0, 2, 4]), 2)

    def test_the_empty_wish(self):
        for strip in (read("0"), read("0o"), read("99o"), WORN, whole(200, 99), [(True, 99)] * 200):
            self.assertEqual(fewest(strip, []), 0)
            self.assertEqual(plan(strip, []), [])
            self.assertIsNone(tight(strip, []))

    def test_a_wished_cell_without_a_pass(self):
        for text, wish, cell in (("0", [0], 0), ("1 0 1", [0, 1, 2], 1), ("0 1 0", [2], 2), ("0 1 0", [0, 2], 0),
                                 ("1 1 0 0", [1, 2, 3], 2), ("0 1", [0, 1], 0)):
            strip = read(text)
            self.assertIsNone(fewest(strip, wish))
            self.assertIsNone(plan(strip, wish))
            self.assertEqual(tight(strip, wish), cell)
            self.assertIs(type(tight(strip, wish)), int)

    def test_one_cell(self):
        for left in (1, 2, 99):
            strip = whole(1, left)
            self.assertEqual(fewest(strip, [0]), 1)
            self.assertEqual(plan(strip, [0]), [[0]])
            self.assertEqual(tight(strip, [0]), (0, 0, 0))

    def test_the_longest_strip(self):
        for left in (1, 99):
            strip = whole(200, left)
            self.assertEqual(fewest(strip, list(range(200))), 1)
            self.assertEqual(plan(strip, list(range(200))), [list(range(200))])
            self.assertEqual(fewest(strip, list(range(0, 200, 2))), 100)
            self.assertEqual(plan(strip, list(range(0, 200, 2))), [[cell] for cell in range(0, 200, 2)])
            self.assertEqual(plan(strip, list(range(1, 200, 2))), [[cell] for cell in range(199, 0, -2)])
            self.assertEqual(tight(strip, list(range(0, 200, 2))), (0, 198, 0))
        self.assertEqual(fewest(whole(200, 0), list(range(200))), None)
        self.assertEqual(tight(whole(199, 1) + [(False, 0)], list(range(200))), 199)
        holes = [(cell % 2 == 1, 99 if cell == 99 else 0) for cell in range(200)]
        wish = list(range(0, 200, 2))
        strip = [(holed, left if holed else 1) for holed, left in holes]
        self.assertEqual(fewest(strip, wish), 50)
        self.assertEqual(len(plan(strip, wish)), 50)
        self.assertTrue(is_plan_by_words(strip, wish, plan(strip, wish)))

    def test_a_hundred_passes_are_let(self):
        self.assertEqual(fewest(read("1 1 1") + [(True, 250)], [0, 2]), 2)
        self.assertIs(is_plan([(True, 250)], [], [[0]] * 250), True)
        self.assertIs(is_plan([(True, 250)], [], [[0]] * 251), False)


class TightTest(unittest.TestCase):
    def test_ordinary_wishes(self):
        self.assertEqual(tight(read("1 1 1 1"), [0, 2]), (0, 2, 0))
        self.assertEqual(tight(read("1 1 1 1"), [1, 3]), (0, 3, 1))
        self.assertEqual(tight(read("1 1 1 1"), [2]), (0, 2, 0))
        self.assertEqual(tight(read("2o 1 1"), [1]), (1, 1, 1))
        self.assertEqual(tight(read("1 1 1"), [1]), (0, 1, 1))
        self.assertEqual(tight(read("0o 1 1o 1 1"), [1, 3, 4]), (0, 1, 1))

    def test_against_all_stretches(self):
        for many, most, times in ((1, 2, 8), (2, 3, 20), (5, 2, 60), (8, 1, 60), (13, 3, 30), (40, 2, 4)):
            for at, strip in enumerate(some_strips(many, most, times, 7)):
                wish = some_wish(strip, (0.9, 0.4)[at % 2], at)
                found = tight_by_stretches(strip, wish)
                self.assertEqual(tight(strip, wish), found[0] if found else None)
                if found:
                    self.assertIs(type(tight(strip, wish)), tuple)
                    self.assertEqual(worth(strip, wish, tight(strip, wish)), fewest(strip, wish))
                    self.assertEqual(fewest(strip, wish), fewest_by_stretches(strip, wish))


class WorthTest(unittest.TestCase):
    def test_ordinary_stretches(self):
        self.assertEqual(worth(WORN, [0, 2, 4], (0, 7, 0)), 1)
        self.assertEqual(worth(WORN, [0, 2, 4], (0, 2, 0)), 2)
        self.assertEqual(worth(WORN, [0, 2, 4], (0, 7, 1)), -5)
        self.assertEqual(worth(WORN, [0, 5, 7], (3, 7, 1)), 2)
        self.assertEqual(worth(WORN, [0, 4, 5, 7], (3, 7, 1)), 1)
        self.assertEqual(worth(WORN, [], (0, 7, 0)), -2)
        self.assertEqual(worth(WORN, [6], (6, 6, 0)), 1)
        self.assertEqual(worth(WORN, [6], (6, 6, 1)), 0)

    def test_cells_that_are_whole_and_not_wished_count_nothing(self):
        for stretch in stretches_of(5):
            self.assertEqual(worth(whole(5, 99), [], stretch), 0)

    def test_every_stretch_of_small_strips(self):
        for many, most, times in ((1, 3, 8), (2, 3, 20), (4, 3, 20), (6, 99, 20), (9, 2, 5)):
            for strip in some_strips(many, most, times, 3):
                for wish in wishes_of(strip)[::3]:
                    for stretch in stretches_of(many):
                        self.assertEqual(worth(strip, wish, stretch), worth_by_words(strip, wish, stretch))

    def test_the_longest_strip(self):
        strip = [(cell % 4 == 1, 99) for cell in range(200)]
        wish = list(range(0, 200, 2))
        for stretch in ((0, 199, 0), (0, 199, 1), (199, 199, 1), (0, 0, 0), (37, 151, 1)):
            self.assertEqual(worth(strip, wish, stretch), worth_by_words(strip, wish, stretch))
        self.assertEqual(worth(strip, wish, (0, 199, 0)), 100 - 50 * 99)

    def test_a_stretch_beyond_the_strip_has_the_cells_that_are_there(self):
        self.assertEqual(worth(WORN, [0, 2, 4], (0, 9, 0)), worth(WORN, [0, 2, 4], (0, 7, 0)))
        self.assertEqual(worth(WORN, [0, 2, 4], (-2, 7, 0)), worth(WORN, [0, 2, 4], (0, 7, 0)))


class IsPlanTest(unittest.TestCase):
    def test_plans(self):
        for wish, punches in (
                ([0, 2, 4], [[0, 3, 4], [2]]), ([0, 2, 4], [[0], [2], [4]]), ([0, 2, 4], [[4], [2], [0]]),
                ([0, 2, 4], [[0, 3], [2, 3, 4], [0], [0]]), ([], []), ([], [[3]]), ([], [[3], [3]]),
                ([7], [[7], [7], [7], [7]]), ([5], [[5]])):
            self.assertIs(is_plan(WORN, wish, punches), True, (wish, punches))

    def test_one_thing_otherwise(self):
        for wish, punches in (
                ([0, 2, 4], [[0, 3, 4]]), ([0, 2, 4], []), ([5], []), ([0], [[3]]),
                ([0, 2, 4], [[0, 3, 4], [2], []]), ([0, 2, 4], [[0, 3, 4], [2], [2]]),
                ([0, 2, 4], [[0, 3, 4], [2], [3], [3]]), ([0, 2, 4], [[0, 1, 4], [2]]), ([0, 2, 4], [[0, 3, 4], [1, 2]]),
                ([0, 2, 4], [[0, 3, 4], [2, 5]]), ([0, 2, 4], [[0, 5], [2], [4]]), ([0, 2, 4], [[0, 4], [2]]),
                ([0, 2, 4], [[0, 3, 4], [2], [7]]), ([0, 2, 4], [[0, 3, 4], [2], [8]]),
                ([0, 2, 4], [[0, 3, 4], [2], [-1]]), ([0, 2, 4], [[-5, 0, 3, 4], [2]]),
                ([0, 2, 4], [[0, 3, 4], [2, 9]]), ([0, 2, 4], [[0, 3, 4], [2, FAR - 1]]),
                ([0, 2, 4], [[0, 3, 4], [2], [MOST_FIGURES]]), ([0, 2, 4], [[-FAR], [0, 3, 4], [2]]),
                ([0, 2, 4], [[0, 4, 3], [2]]), ([0, 2, 4], [[0, 3, 3, 4], [2]]), ([0, 2, 4], [[3, 0], [2], [4]]),
                ([], [[]]), ([], [[3], [3], [3]]), ([], [[1]]), ([], [[0]]), ([6], [[6]]), ([6], [])):
            self.assertIs(is_plan(WORN, wish, punches), False, (wish, punches))

    def test_all_short_plans_by_the_words(self):
        lists = [list(cells) for size in range(3) for cells in product(range(-1, 5), repeat=size)]
        for strip in (read("1 1o 2 0o"), read("2 1 0 1")):
            for wish in wishes_of(strip):
                for size in range(3):
                    for punches in product(lists, repeat=size):
                        self.assertIs(is_plan(strip, wish, list(punches)), is_plan_by_words(strip, wish, punches))

    def test_all_plans_of_lists_that_can_be_had(self):
        for strip in some_strips(4, 2, 6, 5):
            lists = lists_of(range(4))
            for wish in wishes_of(strip)[-3:]:
                for size in range(4):
                    for punches in product(lists, repeat=size):
                        self.assertIs(is_plan(strip, wish, list(punches)), is_plan_by_words(strip, wish, punches))

    def test_four_hundred_punches(self):
        strip = read("99o 99 99o 99o 99o")
        punches = [[0]] * 99 + [[1]] * 99 + [[2]] * 99 + [[3]] * 99 + [[4]] * 4
        self.assertEqual(len(punches), 400)
        self.assertIs(is_plan(strip, [1], punches), True)
        self.assertIs(is_plan(strip, [1], [*punches[:-1], [3]]), False)
        self.assertIs(is_plan(strip, [1], [*punches[:-1], []]), False)

    def test_the_longest_strip(self):
        cells = list(range(200))
        self.assertIs(is_plan(whole(200, 99), cells, [cells] * 99), True)
        self.assertIs(is_plan(whole(200, 99), cells, [cells] * 100), False)
        self.assertIs(is_plan(whole(200, 99), cells[:-1], [cells]), False)
        self.assertIs(is_plan(whole(200, 99), cells, [cells[:-1]]), False)
        self.assertIs(is_plan(whole(200, 2), cells, [cells[::-1]]), False)


class NoWishTest(unittest.TestCase):
    def refused(self, strip, wish):
        for ask in ASKS.values():
            with self.assertRaises(NoWish) as caught:
                ask(strip, wish)
            self.assertIs(type(caught.exception), NoWish)

    def test_what_is_no_wish(self):
        for wish in NO_WISHES:
            self.refused(WORN, wish)

    def test_all_short_lists_by_the_words(self):
        for strip in (read("1 1o 0"), read("0o"), read("2"), read("1 1 1")):
            good = wishes_of(strip)
            for size in range(4):
                for cells in product(range(-1, len(strip) + 1), repeat=size):
                    if list(cells) not in good:
                        self.refused(strip, list(cells))
                    else:
                        self.assertEqual(fewest(strip, list(cells)), fewest_by_stretches(strip, list(cells)))

    def test_ahead_of_there_being_no_plan(self):
        self.refused(read("0 1o"), [0, 1])
        self.refused(read("0 0"), [1, 0])

    def test_the_longest_strip(self):
        for wish in ([200], [*range(200), 200], [-1], list(range(200))[::-1], [0, *range(200)]):
            self.refused(whole(200, 1), wish)
        self.refused([*whole(199, 1), (True, 1)], list(range(200)))


class GluedTest(unittest.TestCase):
    def test_the_fewest_of_a_glued_strip(self):
        for many, other in ((1, 1), (2, 3), (5, 4), (8, 8), (100, 100), (33, 60)):
            for at in range(25):
                one, two = some_strips(many, 2, 1, at)[0], some_strips(other, 2, 1, at + 100)[0]
                wish, later = some_wish(one, 0.6, at), some_wish(two, 0.6, at + 1)
                told = fewest(glued(one, two), wish + [many + cell for cell in later])
                self.assertGreaterEqual(told, max(fewest(one, wish), fewest(two, later)))
                self.assertLessEqual(told, fewest(one, wish) + fewest(two, later))

    def test_no_plan_of_a_part(self):
        self.assertIsNone(fewest(glued(read("1 0"), read("1")), [0, 1, 2]))
        self.assertIsNone(fewest(glued(read("1"), read("1 0")), [0, 1, 2]))

    def test_turned_about_it_is_the_same(self):
        for strip in some_strips(9, 2, 30, 4):
            wish = some_wish(strip, 0.7)
            self.assertEqual(fewest(strip, wish), fewest(turned(strip), [8 - cell for cell in wish[::-1]]))


if __name__ == "__main__":
    unittest.main()
