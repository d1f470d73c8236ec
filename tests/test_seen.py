"""Point 12: punches that make the counts that were seen."""

import random
import unittest
from itertools import product

from pleatpunch.punches import can_be
from pleatpunch.seen import fewest_seen, made
from reckoning import seen_by_stretches

FAR = 10 ** 29


def some_counts(many, most, seed):
    chance = random.Random(seed)
    return [chance.randint(0, most) for _ in range(many)]


class FewestSeenTest(unittest.TestCase):
    def test_ordinary_counts(self):
        self.assertEqual(fewest_seen([1, 1, 1]), 1)
        self.assertEqual(fewest_seen([1, 0, 1]), 2)
        self.assertEqual(fewest_seen([0, 2, 1, 3]), 4)
        self.assertEqual(fewest_seen([2, 1, 0, 3]), 4)

    def test_edges(self):
        for count in (0, 1, 2, 99):
            self.assertEqual(fewest_seen([count]), count)
            self.assertEqual(fewest_seen([count] * 200), count)
            self.assertEqual(fewest_seen([count, 0] * 100), count * 100)
            self.assertEqual(fewest_seen([0, count] * 100), count * 100)
        self.assertEqual(fewest_seen([0] * 200), 0)

    def test_all_small_counts_against_all_stretches(self):
        for many, most in ((1, 5), (2, 4), (3, 3), (4, 3), (6, 1)):
            for counts in product(range(most + 1), repeat=many):
                self.assertEqual(fewest_seen(list(counts)), seen_by_stretches(counts))

    def test_longer_counts_against_all_stretches(self):
        for many in (7, 20, 50):
            for seed in range(5):
                counts = some_counts(many, (3, 99)[seed % 2], seed)
                self.assertEqual(fewest_seen(counts), seen_by_stretches(counts))


class MadeTest(unittest.TestCase):
    def check(self, counts, many):
        told = made(counts, many)
        self.assertEqual(len(told), many)
        times = [0] * len(counts)
        for cells in told:
            self.assertIs(can_be(len(counts), cells), True, (counts, many, cells))
            for cell in cells:
                times[cell] += 1
        self.assertEqual(times, counts)
        self.assertEqual({type(cells) for cells in [told, *told]}, {list})

    def test_all_small_counts(self):
        for many, most in ((1, 5), (2, 4), (3, 3), (4, 2), (5, 2), (6, 1)):
            for counts in map(list, product(range(most + 1), repeat=many)):
                least, greatest = fewest_seen(counts), sum(counts)
                for number in range(least, greatest + 1):
                    self.check(counts, number)
                for number in (least - 1, greatest + 1, -1, -FAR, FAR, 10 ** 30 - 1):
                    self.assertIsNone(made(counts, number))

    def test_nothing_seen(self):
        for many in (1, 2, 200):
            self.assertEqual(made([0] * many, 0), [])
            for number in (1, -1, FAR, -FAR):
                self.assertIsNone(made([0] * many, number))

    def test_the_longest_strip(self):
        for counts in ([99] * 200, [99, 0] * 100, [0, 1] * 100, some_counts(200, 99, 1), some_counts(200, 1, 2)):
            least, greatest = fewest_seen(counts), sum(counts)
            for number in (least, least + 1, (least + greatest) // 2, greatest):
                if number <= greatest:
                    self.check(counts, number)
            self.assertIsNone(made(counts, least - 1))
            self.assertIsNone(made(counts, greatest + 1))

    def test_what_was_punched_can_be_made(self):
        for many, lists in ((10, [[1, 4, 5, 8], [0], [0, 9]]), (4, [[0, 1, 2, 3]] * 7), (5, [[0], [2], [4], [2, 3]])):
            counts = [sum(cells.count(cell) for cells in lists) for cell in range(many)]
            self.assertLessEqual(fewest_seen(counts), len(lists))
            self.check(counts, len(lists))


if __name__ == "__main__":
    unittest.main()
