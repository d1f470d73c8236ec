"""Points 2 and 3: how everything is asked and told, and the promise over the whole strip."""

import copy
import unittest

from pleatpunch.errors import NoFolds, NoList, NoWish, TooMany
from pleatpunch.far import far_fewest, far_tight
from pleatpunch.foldings import cells_at
from pleatpunch.paper import Paper
from pleatpunch.punches import all_foldings, can_be, counted, creased, least_folding, odd_ones, ways
from pleatpunch.rings import (
    is_ring_folding, is_ring_plan, ring_can_be, ring_counted, ring_fewest, ring_least_folding, ring_places, ring_plan,
    ring_tight, ring_worth)
from pleatpunch.seen import fewest_seen, made
from pleatpunch.sessions import session
from pleatpunch.strips import read
from pleatpunch.wear import all_tight, cheaper, dearer, helpful
from pleatpunch.wishes import fewest, is_plan, plan, tight, worth
from reckoning import some_strips, some_wish

STRIP = read("3 0o 1 2o 1 1 0 4")
RING = read("3 0o 1 2o 1 1 0 4o")
LONG = read(" ".join(["1 9 2o 0 1o 1 0o 3 1 5"] * 20))
LONG_RING = read(" ".join(["1 9 2o 4 1o 1 0o 3o 1 5"] * 20))
LONG_WISH = [cell for cell in range(200) if cell % 10 in (0, 5, 8)]

# Function, arguments by their names, what is told.
CALLS = [
    (can_be, {"many": 10, "cells": [1, 4, 5, 8]}, True),
    (odd_ones, {"cells": [1, 4, 6, 8]}, (4, 6)),
    (least_folding, {"many": 10, "cells": [1, 4, 5, 8]}, [2, 4, 6]),
    (counted, {"many": 10, "cells": [2, 7, 8]}, 4),
    (all_foldings, {"many": 5, "cells": [2]}, [[], [0], [0, 3], [3]]),
    (creased, {"many": 5, "cells": [2]}, [2, 0, 0, 2]),
    (ways, {"many": 10, "plan": [[1, 4, 5, 8], [3], [3]]}, [([2, 4, 6], 1), ([], 3), ([], 3)]),
    (fewest, {"strip": STRIP, "wish": [0, 2, 4]}, 2),
    (plan, {"strip": STRIP, "wish": [0, 2, 4]}, [[0], [2, 3, 4]]),
    (tight, {"strip": STRIP, "wish": [0, 2, 4]}, (0, 2, 0)),
    (worth, {"strip": STRIP, "wish": [0, 2, 4], "stretch": (0, 7, 0)}, 1),
    (is_plan, {"strip": STRIP, "wish": [0, 2, 4], "plan": [[0, 3, 4], [2]]}, True),
    (all_tight, {"strip": STRIP, "wish": [0, 2, 4]}, [(0, 2, 0)]),
    (cheaper, {"strip": STRIP, "wish": [0, 2, 4]}, [1]),
    (dearer, {"strip": STRIP, "wish": [0, 2, 4]}, [2, 4]),
    (helpful, {"strip": read("1 9 1 2"), "wish": [0, 2]}, [1]),
    (fewest_seen, {"counts": [1, 0, 2]}, 3),
    (made, {"counts": [1, 1, 1], "many": 1}, [[0, 1, 2]]),
    (made, {"counts": [1, 1, 1], "many": 3}, [[0], [1], [2]]),
    (is_ring_folding, {"many": 6, "folds": [0, 3]}, True),
    (ring_places, {"many": 6, "folds": [0, 3]}, [0, 0, -1, -2, -2, -1]),
    (ring_can_be, {"many": 10, "cells": [1, 4, 5, 8]}, True),
    (ring_least_folding, {"many": 10, "cells": [1, 4, 5, 8]}, [2, 4, 6, 9]),
    (ring_counted, {"many": 10, "cells": [4, 9]}, 4),
    (ring_fewest, {"ring": RING, "wish": [0, 2, 4]}, 2),
    (ring_plan, {"ring": read("1 1 1 1"), "wish": [0, 3]}, [[0, 3]]),
    (ring_tight, {"ring": RING, "wish": [0, 2, 4]}, ("arc", 0, 3, 0)),
    (ring_tight, {"ring": read("1 1 0 1"), "wish": [0, 2]}, ("torn", 2)),
    (ring_tight, {"ring": read("1 1 0 1"), "wish": [1, 3]}, ("round", 1)),
    (ring_worth, {"ring": RING, "wish": [0, 2, 4], "stretch": ("arc", 4, 7, 0)}, -1),
    (ring_worth, {"ring": RING, "wish": [0, 2, 4], "stretch": ("round", 0)}, -3),
    (is_ring_plan, {"ring": RING, "wish": [0, 2, 4], "plan": [[0, 3, 4, 7], [2, 7]]}, True),
    (far_fewest, {"runs": [("w.", 10 ** 29), ("ow", 2)]}, 10 ** 29),
    (far_tight, {"runs": [("w.", 10 ** 29), ("ow", 2)]}, (0, 2 * 10 ** 29 - 2, 0)),
    (session, {"rows": "new 3 1\nstrip"}, "ok\n1 1 1"),
]
# Function, arguments, what is told; then the argument that is changed in place, its other items, what is told then.
CHANGES = [
    (can_be, [10, [1, 4]], True, 1, [1, 5], False),
    (odd_ones, [[1, 4]], None, 0, [1, 5], (1, 5)),
    (least_folding, [10, [1, 4]], [2], 1, [1, 8], [4]),
    (counted, [6, [0, 5]], 2, 1, [0, 3], 2),
    (counted, [8, [0, 7]], 5, 1, [0, 1, 6], 2),
    (all_foldings, [3, [2]], [[], [0]], 1, [1], [[]]),
    (creased, [3, [2]], [1, 0], 1, [1], [0, 0]),
    (ways, [6, [[0, 5]]], [([2], 0)], 1, [[1], [0, 3]], [([], 1), ([1], 0)]),
    (fewest, [STRIP, [0, 2, 4]], 2, 1, [0], 1),
    (fewest, [STRIP, [0, 2, 4]], 2, 0, read("1 1o 1 2o 1"), 1),
    (plan, [STRIP, [0, 2, 4]], [[0], [2, 3, 4]], 1, [], []),
    (plan, [STRIP, [0, 2, 4]], [[0], [2, 3, 4]], 0, read("1 1o 1 2o 1"), [[0, 1, 2, 3, 4]]),
    (tight, [STRIP, [0, 2, 4]], (0, 2, 0), 0, read("1 1o 0 2o 1"), 2),
    (tight, [STRIP, [0, 2, 4]], (0, 2, 0), 1, [], None),
    (worth, [STRIP, [0, 2, 4], (0, 7, 0)], 1, 1, [0], -1),
    (worth, [STRIP, [0, 2, 4], (0, 7, 0)], 1, 0, read("1 1 1 1 1"), 3),
    (is_plan, [STRIP, [0, 2, 4], [[0, 3, 4], [2]]], True, 1, [0, 4, 5], False),
    (is_plan, [STRIP, [0, 2, 4], [[0, 3, 4], [2]]], True, 2, [[0, 3, 4]], False),
    (is_plan, [STRIP, [0, 2, 4], [[0, 3, 4], [2]]], True, 0, read("1 1 1 1 1"), False),
    (all_tight, [STRIP, [0, 2, 4]], [(0, 2, 0)], 1, [], []),
    (all_tight, [read("1 1"), [0]], [(0, 0, 0), (0, 1, 0)], 0, read("1 1o"), [(0, 0, 0)]),
    (cheaper, [STRIP, [0, 2, 4]], [1], 0, read("1 1o 1 2o 1"), []),
    (dearer, [STRIP, [0, 2, 4]], [2, 4], 1, [0], []),
    (helpful, [read("1 9 1 2"), [0, 2]], [1], 0, read("1 9o 1"), []),
    (fewest_seen, [[1, 0, 2]], 3, 0, [1, 1], 1),
    (made, [[1, 1, 1], 1], [[0, 1, 2]], 0, [0, 1], [[1]]),
    (is_ring_folding, [6, [0, 3]], True, 1, [0, 4], False),
    (ring_places, [6, [0, 3]], [0, 0, -1, -2, -2, -1], 1, [2, 5], [0, 1, 2, 2, 1, 0]),
    (ring_can_be, [10, [1, 4]], True, 1, [1, 5], False),
    (ring_least_folding, [10, [1, 4]], [2, 7], 1, [0, 9], [4, 9]),
    (ring_counted, [10, [4, 9]], 4, 1, [0, 9], 14),
    (ring_fewest, [RING, [0, 2, 4]], 2, 1, [0], 1),
    (ring_fewest, [RING, [0, 2, 4]], 2, 0, read("1 1o 1 1o 1 1o"), 1),
    (ring_plan, [read("1 1 1 1"), [0, 3]], [[0, 3]], 1, [1, 2], [[1, 2]]),
    (ring_plan, [read("1 1 1 1"), [0, 3]], [[0, 3]], 0, read("1 1 1 0"), None),
    (ring_tight, [RING, [0, 2, 4]], ("arc", 0, 3, 0), 1, [6], ("torn", 6)),
    (ring_tight, [RING, [0, 2, 4]], ("arc", 0, 3, 0), 0, read("1 1o 1 1 1 1"), ("round", 0)),
    (ring_worth, [RING, [0, 2, 4], ("round", 0)], -3, 1, [0], -5),
    (ring_worth, [RING, [0, 2, 4], ("arc", 7, 4, 0)], -2, 0, read("1 1 1 1 1 1 1 1"), 2),
    (is_ring_plan, [RING, [0, 2, 4], [[0, 3, 4, 7], [2, 7]]], True, 1, [0, 4, 5], False),
    (is_ring_plan, [RING, [0, 2, 4], [[0, 3, 4, 7], [2, 7]]], True, 2, [[0, 3, 4, 7]], False),
    (is_ring_plan, [RING, [0, 2, 4], [[0, 3, 4, 7], [2, 7]]], True, 0, read("1 1 1 1 1 1 1 1"), False),
    (far_fewest, [[("w.", 5)]], 5, 0, [("w", 5)], 1),
    (far_tight, [[("w.", 5)]], (0, 8, 0), 0, [("o.", 5)], None),
]


def lists_within(value):
    """The numbers by which Python knows each list in the value, one for each place where a list stands."""
    if not isinstance(value, (list, tuple)):
        return []
    found = [id(value)] if isinstance(value, list) else []
    for part in value:
        found.extend(lists_within(part))
    return found


def spoil(value):
    """Changes all lists within the value."""
    if isinstance(value, (list, tuple)):
        for part in value:
            spoil(part)
    if isinstance(value, list):
        value.append(77)
        value[0] = -78
        value.reverse()


class AskingTest(unittest.TestCase):
    def test_what_is_told(self):
        for function, named, told in CALLS:
            for answer in (function(**named), function(*named.values())):
                self.assertEqual(answer, told, function.__name__)
                self.assertIs(type(answer), type(told))

    def test_arguments_by_their_names_in_any_order(self):
        for function, named, told in CALLS:
            names = list(named)
            for at in range(len(names)):
                turned = names[at:] + names[:at]
                self.assertEqual(function(**{name: named[name] for name in turned}), told, function.__name__)
            backward = {name: named[name] for name in names[::-1]}
            self.assertEqual(function(**backward), told)
            later = {name: named[name] for name in names[:0:-1]}
            self.assertEqual(function(named[names[0]], **later), told)

    def test_nothing_that_is_handed_in_is_changed(self):
        for function, named, told in CALLS:
            kept = copy.deepcopy(named)
            function(**named)
            self.assertEqual(named, kept, function.__name__)

    def test_nothing_is_changed_by_what_is_refused(self):
        for function, arguments, error in (
                (least_folding, [10, [4, 1]], NoList), (counted, [10, [1, 3]], NoList),
                (all_foldings, [10, [10]], NoList), (creased, [10, [-1]], NoList),
                (all_foldings, [40, [0, 39]], TooMany), (ways, [10, [[1], [1, 3]]], NoList),
                (fewest, [STRIP, [1]], NoWish), (plan, [STRIP, [2, 0]], NoWish), (tight, [STRIP, [0, 0]], NoWish),
                (worth, [STRIP, [8], (0, 1, 0)], NoWish), (is_plan, [STRIP, [-1], [[0]]], NoWish),
                (all_tight, [STRIP, [1]], NoWish), (cheaper, [STRIP, [1]], NoWish), (dearer, [STRIP, [1]], NoWish),
                (helpful, [STRIP, [1]], NoWish), (all_tight, [[(False, 1)] * 200, [99]], TooMany),
                (ring_places, [6, [0, 4]], NoFolds), (ring_least_folding, [6, [4, 1]], NoList),
                (ring_counted, [6, [0]], NoList), (ring_fewest, [RING, [1]], NoWish),
                (ring_plan, [RING, [2, 0]], NoWish), (ring_tight, [RING, [0, 0]], NoWish),
                (ring_worth, [RING, [8], ("round", 0)], NoWish),
                (is_ring_plan, [RING, [-1], [[0]]], NoWish)):
            kept = copy.deepcopy(arguments)
            self.assertRaises(error, function, *arguments)
            self.assertEqual(arguments, kept)

    def test_told_lists_are_new_ones_and_the_askers_own(self):
        for function, named, told in CALLS:
            one, other = function(**named), function(**named)
            places = lists_within([one, other, list(named.values())])
            ways_in = [place for place in places if places.count(place) > 1]
            self.assertEqual(ways_in, [], function.__name__)
            kept = copy.deepcopy(named)
            spoil(one)
            self.assertEqual(other, told)
            self.assertEqual(function(**named), told)
            self.assertEqual(named, kept)

    def test_told_lists_of_long_answers(self):
        for told in (all_foldings(23, [5, 12, 17]), ways(200, [[0]] * 400), made([3] * 200, 300),
                     plan(LONG, LONG_WISH), ring_plan(LONG_RING, LONG_WISH)):
            places = lists_within(told)
            self.assertGreater(len(places), 2)
            self.assertEqual(len(places), len(set(places)))

    def test_the_plan_handed_in_is_not_told(self):
        cells = [[0, 5], [3]]
        spoil(ways(6, cells))
        self.assertEqual(cells, [[0, 5], [3]])

    def test_a_list_changed_in_place_is_looked_at_anew(self):
        for function, arguments, told, at, items, then in CHANGES:
            given = copy.deepcopy(arguments)
            self.assertEqual(function(*given), told, function.__name__)
            given[at][:] = items
            self.assertEqual(function(*given), then, function.__name__)
            given[at][:] = arguments[at]
            self.assertEqual(function(*given), told, function.__name__)

    def test_a_list_within_a_list_changed_in_place(self):
        cells = [[0, 5], [3]]
        self.assertEqual(ways(6, cells), [([2], 0), ([], 3)])
        cells[0][1] = 1
        self.assertEqual(ways(6, cells), [([0], 0), ([], 3)])
        cells[1].append(5)
        self.assertRaises(NoList, ways, 6, cells)
        punches = [[0, 3, 4], [2]]
        self.assertIs(is_plan(STRIP, [0, 2, 4], punches), True)
        punches[1].append(4)
        self.assertIs(is_plan(STRIP, [0, 2, 4], punches), False)

    def test_what_is_told_may_be_handed_in(self):
        self.assertEqual(worth(STRIP, [0, 2, 4], tight(STRIP, [0, 2, 4])), fewest(STRIP, [0, 2, 4]))
        for cells in plan(LONG, LONG_WISH):
            self.assertIs(can_be(200, cells), True)
        self.assertEqual(len(ways(200, plan(LONG, LONG_WISH))), fewest(LONG, LONG_WISH))
        self.assertEqual(ring_worth(LONG_RING, LONG_WISH, ring_tight(LONG_RING, LONG_WISH)),
                         ring_fewest(LONG_RING, LONG_WISH))
        for cells in ring_plan(LONG_RING, LONG_WISH):
            self.assertIs(is_ring_folding(200, ring_least_folding(200, cells)), True)
        self.assertIs(is_ring_plan(LONG_RING, LONG_WISH, ring_plan(LONG_RING, LONG_WISH)), True)
        paper = Paper(200, 9)
        for cells, (folds, place) in zip(plan(LONG, LONG_WISH), ways(200, plan(LONG, LONG_WISH))):
            self.assertEqual(paper.punch(folds, place), cells)
        self.assertEqual(fewest_seen(paper.counts()), fewest(LONG, LONG_WISH))
        self.assertEqual(paper.fewest([1]), fewest(paper.strip(), [1]))


class WholeTest(unittest.TestCase):
    def punched(self, strip, wish):
        """The strip after the plan of the wish, folded and punched as told."""
        left = [passes for _, passes in strip]
        holed = [hole for hole, _ in strip]
        told = plan(strip, wish)
        for cells, (folds, place) in zip(told, ways(len(strip), told)):
            self.assertEqual(cells_at(len(strip), folds, place), cells)
            for cell in cells:
                left[cell] -= 1
                holed[cell] = True
        self.assertGreaterEqual(min(left), 0)
        self.assertEqual([cell for cell in range(len(strip)) if holed[cell] and not strip[cell][0]], wish)
        return list(zip(holed, left))

    def test_wish_after_wish_just_the_wished_cells_are_newly_holed(self):
        for many, most, times in ((1, 3, 6), (2, 3, 10), (6, 3, 30), (15, 5, 20), (50, 9, 6), (200, 3, 2)):
            for at, strip in enumerate(some_strips(many, most, times, 12)):
                for again in range(4):
                    wish = some_wish(strip, 0.4, at + again)
                    self.assertEqual(len(plan(strip, wish)), fewest(strip, wish))
                    if wish:
                        self.assertEqual(worth(strip, wish, tight(strip, wish)), fewest(strip, wish))
                    counts = [0] * many
                    for cells in plan(strip, wish):
                        for cell in cells:
                            counts[cell] += 1
                    self.assertLessEqual(fewest_seen(counts), fewest(strip, wish))
                    strip = self.punched(strip, wish)
                    # Some cells are patched: whole again, with the passes that are left.
                    strip = [(holed and cell % 3 != again, left) for cell, (holed, left) in enumerate(strip)]

    def ring_punched(self, ring, wish):
        """The ring after the plan of the wish, each list folded by its least folding and punched at its place."""
        times = [0] * len(ring)
        for cells in ring_plan(ring, wish):
            laid = ring_places(len(ring), ring_least_folding(len(ring), cells))
            self.assertEqual([cell for cell in range(len(ring)) if laid[cell] == laid[cells[0]]], cells)
            for cell in cells:
                times[cell] += 1
        punched = [(holed or often > 0, left - often) for (holed, left), often in zip(ring, times)]
        self.assertGreaterEqual(min(left for _, left in punched), 0)
        self.assertEqual([cell for cell in range(len(ring)) if punched[cell][0] and not ring[cell][0]], wish)
        return punched

    def test_wish_after_wish_on_a_ring(self):
        done = 0
        for many, most, times in ((2, 3, 10), (6, 4, 40), (16, 9, 20), (50, 30, 4), (200, 60, 1)):
            for at, ring in enumerate(some_strips(many, most, times, 13)):
                for again in range(4):
                    wish = some_wish(ring, 0.3, at + again)
                    told = ring_tight(ring, wish)
                    if ring_fewest(ring, wish) is None:
                        self.assertEqual(told[0], "round")
                        self.assertGreater(ring_worth(ring, wish, told), 0)
                        continue
                    self.assertEqual(len(ring_plan(ring, wish)), ring_worth(ring, wish, told) if wish else 0)
                    ring = self.ring_punched(ring, wish)
                    done += 1
        self.assertGreater(done, 100)


if __name__ == "__main__":
    unittest.main()
