"""Point 19: far strips."""

import copy
import random
import unittest
from itertools import product

from pleatpunch.far import far_fewest, far_tight
from pleatpunch.wishes import fewest, tight, worth
from reckoning import far_laid_out, fewest_by_stretches, tight_by_stretches

MOST = 10 ** 29


def some_pattern(chance, signs, length):
    return "".join(chance.choice(signs) for _ in range(length))


def some_runs(chance, most_runs, most_signs, times):
    """Runs of patterns of which some have few wished cells, some many, some none."""
    signs = ["wo0.", "w.", "ww.o", "w.....", "o0.", "wo"]
    return [(some_pattern(chance, chance.choice(signs), chance.randint(1, most_signs)), chance.choice(times))
            for _ in range(chance.randint(1, most_runs))]


class LaidOutTest(unittest.TestCase):
    def check(self, runs):
        strip, wish = far_laid_out(runs)
        told = far_fewest(runs), far_tight(runs)
        self.assertEqual(told, (fewest(strip, wish), tight(strip, wish)), runs)
        self.assertIs(type(told[0]), int)
        if told[1] is not None:
            self.assertEqual([type(told[1]), *map(type, told[1])], [tuple, int, int, int])
            self.assertEqual(worth(strip, wish, told[1]), told[0])

    def test_every_short_pattern(self):
        for size in range(1, 6):
            for signs in product("wo0.", repeat=size):
                self.check([("".join(signs), 1)])
        for size in range(1, 4):
            for signs in product("wo0.", repeat=size):
                for times in (2, 3, 4, 5):
                    self.check([("".join(signs), times)])

    def test_two_short_runs(self):
        patterns = ["".join(signs) for size in (1, 2) for signs in product("wo.", repeat=size)]
        for one, other in product(patterns, repeat=2):
            for times, more in ((1, 1), (2, 1), (1, 3), (3, 2)):
                self.check([(one, times), (other, more)])

    def test_against_all_stretches(self):
        chance = random.Random(5)
        for _ in range(60):
            runs = some_runs(chance, 3, 4, [1, 2])
            strip, wish = far_laid_out(runs)
            self.assertEqual(far_fewest(runs), fewest_by_stretches(strip, wish))
            self.assertEqual(far_tight(runs), min(tight_by_stretches(strip, wish), default=None))

    def test_many_strips_of_two_hundred_cells_at_most(self):
        chance = random.Random(6)
        checked = 0
        while checked < 400:
            runs = some_runs(chance, 12, chance.choice([3, 8, 40]), [1, 2, 3, 5, 8, 20])
            if sum(len(pattern) * times for pattern, times in runs) <= 200:
                self.check(runs)
                checked += 1

    def test_the_longest(self):
        for runs in ([("w", 200)], [("w.", 100)], [(".w", 100)], [("o", 199), ("w", 1)], [("w" * 40, 5)],
                     [("." * 40, 4), ("w" * 40, 1)], [("w.", 50), ("ow", 50)], [("wo", 50), (".w", 50)],
                     [("w.", 1)] * 11 + [("o.w", 59)]):
            self.check(runs)

    def test_ordinary_runs(self):
        for runs, told, stretch in (
                ([("w", 1)], 1, (0, 0, 0)), ([("w.", 3)], 3, (0, 4, 0)), ([(".w", 3)], 3, (0, 5, 1)),
                ([("wo", 3)], 1, (0, 0, 0)), ([("w0", 3)], 3, (0, 4, 0)), ([("w", 7)], 1, (0, 0, 0)),
                ([("o", 1), ("w.", 2)], 2, (1, 3, 1)), ([("..", 2), ("w.", 2)], 2, (0, 6, 0)),
                ([("w.", 2), ("o.", 2), ("w.", 2)], 4, (0, 10, 0)), ([("w.", 2), (".o", 1), ("w.", 2)], 3, (0, 8, 0)),
                ([("w.", 2), (".o", 2), ("w.", 2)], 2, (0, 2, 0)), ([("w.", 2), (".o", 3), ("w.", 3)], 3, (10, 14, 0)),
                ([(".", 1), ("w.", 2), (".", 1)], 2, (0, 3, 1)), ([("w..", 4)], 1, (0, 0, 0))):
            self.assertEqual((far_fewest(runs), far_tight(runs)), (told, stretch), runs)


class NothingWishedTest(unittest.TestCase):
    def test_none_and_nought(self):
        for runs in ([(".", 1)], [("o", 1)], [("0", 1)], [(".", MOST)], [("o", MOST)], [("o0." * 13 + "o", MOST)] * 12,
                     [("0", 3), ("o.", MOST)], [("." * 40, MOST)]):
            self.assertEqual(far_fewest(runs), 0)
            self.assertIsNone(far_tight(runs))

    def test_one_wished_cell_somewhere(self):
        self.assertEqual(far_tight([("o.", MOST), ("w", 1), ("o.", MOST)]), (0, 2 * MOST, 0))
        self.assertEqual(far_tight([(".o", MOST), ("w", 1), ("o.", MOST)]), (2 * MOST, 2 * MOST, 0))
        self.assertEqual(far_tight([("o", MOST), ("..w", 1), ("o", MOST)]), (MOST, MOST + 2, 0))
        self.assertEqual(far_tight([("o", MOST), (".w", 1), ("o", MOST)]), (MOST - 1, MOST + 1, 1))
        self.assertEqual(far_fewest([("o", MOST), ("..w", 1), ("o", MOST)]), 1)


class FarTest(unittest.TestCase):
    def told(self, *runs):
        return far_fewest(list(runs)), far_tight(list(runs))

    def test_very_many_times(self):
        self.assertEqual(self.told(("w.", MOST)), (MOST, (0, 2 * MOST - 2, 0)))
        self.assertEqual(self.told((".w", MOST)), (MOST, (0, 2 * MOST - 1, 1)))
        self.assertEqual(self.told(("w", MOST)), (1, (0, 0, 0)))
        self.assertEqual(self.told(("o", MOST), ("w.", MOST)), (MOST, (MOST, 3 * MOST - 2, 0)))
        self.assertEqual(self.told(("o", MOST - 1), ("w.", MOST)), (MOST, (MOST - 1, 3 * MOST - 3, 1)))
        self.assertEqual(self.told(("w...", MOST), (".o", 1), ("w.", MOST)), (2 * MOST - 1, (0, 6 * MOST, 0)))
        self.assertEqual(self.told(("w.", MOST), (".o", MOST), ("w.", MOST)), (MOST, (0, 2 * MOST - 2, 0)))
        self.assertEqual(self.told(("w.", MOST), (".o", MOST), ("w.", MOST), ("w.", 1)),
                         (MOST + 1, (0, 6 * MOST, 0)))
        self.assertEqual(self.told(("w.", MOST - 1), (".o", MOST), ("w.", MOST)),
                         (MOST, (4 * MOST - 2, 6 * MOST - 4, 0)))
        self.assertEqual(self.told(("w..", MOST)), (1, (0, 0, 0)))
        self.assertEqual(self.told(("w....w..", MOST)), (1, (0, 0, 0)))
        self.assertEqual(self.told(("w...w.w.o.", MOST)), (3 * MOST, (0, 10 * MOST - 4, 0)))
        self.assertEqual(self.told(("w.w.w.o", MOST)), (3, (0, 4, 0)))

    def test_other_runs_of_the_same_cells(self):
        chance = random.Random(7)
        for _ in range(60):
            runs = some_runs(chance, 3, 20, [1, 5, MOST, MOST - 1, chance.randint(2, MOST)])
            told = self.told(*runs)
            for at, (pattern, times) in enumerate(runs):
                others = [[(pattern, 1), (pattern, times - 1)], [(pattern, times - 1), (pattern, 1)],
                          [(pattern * 2, times // 2), (pattern, 1)] if times % 2 else [(pattern * 2, times // 2)],
                          [(pattern, times // 3), (pattern, times - times // 3)]]
                if len(pattern) > 1:
                    cut = chance.randint(1, len(pattern) - 1)
                    others.append([(pattern[:cut], 1), (pattern[cut:] + pattern[:cut], times - 1), (pattern[cut:], 1)])
                for other in others:
                    other = [run for run in other if run[1] > 0]
                    self.assertEqual(self.told(*runs[:at], *other, *runs[at + 1:]), told, (runs, other))

    def test_each_two_more_times_are_worth_the_same(self):
        chance = random.Random(8)
        for _ in range(200):
            pattern = some_pattern(chance, chance.choice(["wo0.", "w.", "ww.o", "w....."]), chance.randint(1, 20))
            for few in (4, 5):
                strips = [far_laid_out([(pattern, times)]) for times in (few, few + 2)]
                told = [fewest(strip, wish) for strip, wish in strips]
                twice = (MOST - few) // 2
                far = far_fewest([(pattern, few + 2 * twice)])
                self.assertEqual(far, told[0] + twice * (told[1] - told[0]), pattern)

    def test_forty_signs_twelve_runs(self):
        chance = random.Random(9)
        for signs in ("wo0.", "w.", "ww.o", "w", "wo"):
            runs = [(some_pattern(chance, signs, 40), MOST) for _ in range(12)]
            told, (first, last, parity) = self.told(*runs)
            self.assertTrue(1 <= told <= 480 * MOST)
            self.assertTrue(0 <= first <= last < 480 * MOST and parity in (0, 1))
        runs = [("w." * 20, MOST)] * 12
        self.assertEqual(self.told(*runs), (240 * MOST, (0, 480 * MOST - 2, 0)))
        runs = [("w." * 19 + "w", MOST)] * 12
        self.assertEqual(self.told(*runs), (20, (0, 38, 0)))
        runs = [("." * 39 + "w", MOST)] * 12
        self.assertEqual(self.told(*runs), (12 * MOST, (0, 480 * MOST - 1, 1)))

    def test_asked_by_name_and_again(self):
        runs = [("w.o", 3), (".w", MOST)]
        kept = copy.deepcopy(runs)
        told = self.told(*runs)
        self.assertEqual((far_fewest(runs=runs), far_tight(runs=runs)), told)
        self.assertEqual(runs, kept)
        runs.append(("w.", 2))
        runs[0] = ("w", 4)
        self.assertEqual((far_fewest(runs), far_tight(runs)), self.told(("w", 4), (".w", MOST), ("w.", 2)))
        self.assertNotEqual((far_fewest(runs), far_tight(runs)), told)
        self.assertEqual(self.told(*kept), told)


if __name__ == "__main__":
    unittest.main()
