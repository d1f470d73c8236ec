"""Point 11: all tight stretches, and what makes a wish cheaper or dearer."""

import unittest

from pleatpunch.errors import NoWish, TooMany
from pleatpunch.strips import read
from pleatpunch.wear import all_tight, cheaper, dearer, helpful
from pleatpunch.wishes import fewest, tight, worth
from reckoning import (
    every_strip, fewest_by_punching, fewest_by_stretches, some_strips, some_wish, stretches_of, tight_by_stretches,
    wear_by_trying, wishes_of)

FAR = 10 ** 29
FOUR = (all_tight, cheaper, dearer, helpful)


def whole(many, left):
    return [(False, left)] * many


class AllTightTest(unittest.TestCase):
    def test_ordinary_wishes(self):
        self.assertEqual(all_tight(read("1 1 1 1"), [0, 2]), [(0, 2, 0), (0, 3, 0)])
        self.assertEqual(all_tight(read("1"), [0]), [(0, 0, 0)])
        self.assertEqual(all_tight(read("1 1"), [0, 1]), [(0, 0, 0), (1, 1, 1)])
        self.assertEqual(all_tight(read("1o 1 1o"), [1]), [(1, 1, 1)])
        self.assertEqual(all_tight(read("1 0o 1"), [0, 2]), [(0, 2, 0)])

    def test_the_kinds_of_what_is_told(self):
        told = all_tight(read("1 1 1 1"), [0, 2])
        self.assertEqual([type(told), type(told[0])], [list, tuple])

    def test_against_all_stretches(self):
        for many, most, times in ((1, 3, 10), (2, 3, 30), (3, 2, 60), (6, 2, 60), (10, 1, 30), (20, 3, 10)):
            for at, strip in enumerate(some_strips(many, most, times, 2)):
                wish = some_wish(strip, (1, 0.7, 0.3)[at % 3], at)
                told = all_tight(strip, wish)
                self.assertEqual(told, tight_by_stretches(strip, wish))
                self.assertEqual(told[:1], [tight(strip, wish)] if wish else [])
                self.assertTrue(all(worth(strip, wish, stretch) == fewest(strip, wish) for stretch in told))

    def test_just_a_thousand(self):
        told = all_tight(whole(69, 5), [19])
        self.assertEqual(len(told), 1000)
        self.assertEqual(told, [(first, last, 1) for first in range(20) for last in range(19, 69)])

    def test_more_than_a_thousand(self):
        for many, wish, number in ((89, [12], 1001), (64, [31], 32 * 33), (200, [100], 101 * 100),
                                   (200, list(range(200)), 200 * 101 // 2)):
            with self.assertRaises(TooMany) as caught:
                all_tight(whole(many, 1), wish)
            self.assertIs(type(caught.exception), TooMany)
            self.assertEqual(caught.exception.many, number)
            self.assertIs(type(caught.exception.many), int)


class WearTest(unittest.TestCase):
    def check(self, strip, wish, fewest_of):
        told = (cheaper(strip, wish), dearer(strip, wish), helpful(strip, wish))
        self.assertEqual(told, wear_by_trying(strip, wish, fewest_of), (strip, wish))

    def test_ordinary_wishes(self):
        self.assertEqual(cheaper(read("1 0o 1"), [0, 2]), [1])
        self.assertEqual(cheaper(read("1 1 1 1 1"), [0, 1, 2, 4]), [])
        self.assertEqual(cheaper(read("1 1 1 0o 1"), [0, 1, 2, 4]), [3])
        self.assertEqual(cheaper(read("1 0o 0o 0o 1"), [0, 4]), [1, 3])
        self.assertEqual(dearer(read("1 1o 1"), [0, 2]), [0, 1, 2])
        self.assertEqual(dearer(read("2 1o 2"), [0, 2]), [1])
        self.assertEqual(dearer(read("2 2o 2"), [0, 2]), [])
        self.assertEqual(helpful(read("1 1 1"), [0, 2]), [1])
        self.assertEqual(helpful(read("1 0 1"), [0, 2]), [])
        self.assertEqual(helpful(read("1 1 1 1"), [0, 2]), [1])
        self.assertEqual(helpful(read("1 1 1 1 1"), [0, 4]), [1, 3])

    def test_every_small_strip_by_going_through_all_punches(self):
        for many, most in ((1, 2), (2, 2), (3, 1)):
            for strip in every_strip(many, most):
                for wish in wishes_of(strip):
                    self.check(strip, wish, fewest_by_punching)
        for strip in some_strips(4, 2, 15, 6) + some_strips(5, 1, 15, 6):
            for wish in wishes_of(strip)[-4:]:
                self.check(strip, wish, fewest_by_punching)

    def test_longer_strips_by_all_stretches(self):
        for many, most, times in ((6, 3, 40), (9, 1, 40), (14, 2, 15)):
            for at, strip in enumerate(some_strips(many, most, times, 8)):
                self.check(strip, some_wish(strip, (1, 0.7, 0.4)[at % 3], at), fewest_by_stretches)

    def test_cells_of_no_and_of_the_most_passes(self):
        wish = list(range(0, 200, 2))
        strip = whole(200, 1)
        strip[99] = (True, 0)
        self.assertEqual((fewest(strip, wish), cheaper(strip, wish), dearer(strip, wish)), (100, [99], wish))
        strip[99] = (True, 49)
        self.assertEqual((fewest(strip, wish), cheaper(strip, wish)), (51, [99]))
        self.assertEqual(helpful(strip, wish), [cell for cell in range(1, 199, 2) if cell != 99])
        strip[99] = (True, 50)
        self.assertEqual((fewest(strip, wish), cheaper(strip, wish), helpful(strip, wish)), (50, [], []))
        strip[99] = (True, 99)
        self.assertEqual((fewest(strip, wish), cheaper(strip, wish), helpful(strip, wish)), (50, [], []))

    def test_each_cell_is_tried_alone(self):
        self.assertEqual(helpful(read("1 9 1 1 1 1"), [0, 2, 3]), [1])
        self.assertEqual(helpful(read("1 9 0o 9 1"), [0, 4]), [1, 3])
        self.assertEqual(helpful(read("1 9 1 9 1"), [0, 2, 4]), [1, 3])
        self.assertEqual(helpful(read("1 9 1 1 9 1"), [0, 2, 3, 5]), [])
        self.assertEqual(cheaper(read("1 0o 1 1 0o 1"), [0, 2, 3, 5]), [])


class LongestStripTest(unittest.TestCase):
    def test_answers_come(self):
        for at, strip in enumerate(some_strips(200, 2, 2, 9) + some_strips(200, 99, 1, 9)):
            wish = some_wish(strip, 0.8, at)
            told = (cheaper(strip, wish), dearer(strip, wish), helpful(strip, wish))
            self.assertEqual(told, wear_by_trying(strip, wish, fewest))
            try:
                self.assertEqual(all_tight(strip, wish)[0], tight(strip, wish))
            except TooMany as error:
                self.assertGreater(error.many, 1000)

    def test_a_wish_of_all_cells(self):
        strip, wish = whole(200, 1), list(range(200))
        self.assertEqual(cheaper(strip, wish), [])
        self.assertEqual(dearer(strip, wish), wish)
        self.assertEqual(helpful(strip, wish), [])
        self.assertEqual(dearer(whole(200, 2), wish), [])

    def test_a_wish_of_the_two_ends(self):
        strip = whole(200, 1)
        self.assertEqual(all_tight(strip, [0, 199]), sorted([(0, last, 0) for last in range(199)]
                                                            + [(first, 199, 1) for first in range(1, 200)]))


class NothingToTellTest(unittest.TestCase):
    def test_the_empty_wish(self):
        for strip in (read("0"), read("1o"), read("1 0o 1"), whole(200, 99), [(True, 0)] * 200):
            for function in FOUR:
                self.assertEqual(function(strip, []), [])

    def test_no_plan(self):
        for text, wish in (("0", [0]), ("1 0 1", [0, 1, 2]), ("0 1o 1", [0, 2]), ("1 1 0", [2])):
            for function in FOUR:
                self.assertEqual(function(read(text), wish), [])


class NoWishTest(unittest.TestCase):
    def test_what_is_no_wish(self):
        strip = read("3 0o 1 2o 1 1 0 4")
        for wish in ([1], [0, 3], [0, 0], [2, 0], [-1], [-1, 0], [8], [0, 8], [FAR], [-FAR], [10 ** 30 - 1],
                     [6, 1], [6, 6]):
            for function in FOUR:
                with self.assertRaises(NoWish) as caught:
                    function(strip, wish)
                self.assertIs(type(caught.exception), NoWish)


if __name__ == "__main__":
    unittest.main()
