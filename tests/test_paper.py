"""Points 13 and 14: a paper at work, deed by deed, and point 2 as far as a paper goes."""

import copy
import unittest

from pleatpunch.errors import NoCell, NoFolds, NoMark, NoPlace, NoPlan, NoWish, Torn, Whole
from pleatpunch.paper import Paper
from pleatpunch.punches import ways
from pleatpunch.strips import read, written
from pleatpunch.wishes import fewest, plan
from reckoning import PaperByWords, some_deeds, some_wish

FAR = 10 ** 29
MOST_FIGURES = 10 ** 30 - 1
NO_FOLDS_OF_SIX = [
    [-1], [5], [6], [FAR], [-FAR], [MOST_FIGURES], [0, 0], [2, 2], [1, 0], [4, 3], [0, 2, 1], [-1, 0], [0, 5],
    [0, 1, 2, 3, 4, 5]]


def state_of(paper):
    return paper.strip(), paper.counts()


def outcome(method, *arguments):
    """What a call told, or the name of the class of what it raised with the cell that it bears."""
    try:
        return method(*arguments), None
    except (NoCell, NoFolds, NoMark, NoPlace, NoPlan, NoWish, Torn, Whole) as error:
        return type(error).__name__, getattr(error, "cell", None)


def worked(many, left, *deeds):
    """A paper at which these deeds, (name, arguments), are done."""
    paper = Paper(many, left)
    for name, *arguments in deeds:
        getattr(paper, name)(*arguments)
    return paper


def passes(paper):
    return [left for _, left in paper.strip()]


class RefusedTest(unittest.TestCase):
    def refused(self, error, method, *arguments, cell=None):
        """The call raises an error of just that class, which bears just that cell, and changes nothing."""
        paper = method.__self__
        kept, handed = copy.deepcopy(state_of(paper)), copy.deepcopy(arguments)
        for _ in range(2):
            with self.assertRaises(error) as caught:
                method(*arguments)
            self.assertIs(type(caught.exception), error)
            if cell is not None:
                self.assertEqual(caught.exception.cell, cell)
                self.assertIs(type(caught.exception.cell), int)
            self.assertEqual(state_of(paper), kept)
            self.assertEqual(arguments, handed)

    def test_no_folds(self):
        paper = worked(6, 2, ("punch", [2], 1))
        for folds in NO_FOLDS_OF_SIX:
            for place in (0, 1, 77, -FAR):
                self.refused(NoFolds, paper.punch, folds, place)
        self.refused(NoFolds, Paper(1, 9).punch, [0], 0)
        self.refused(NoFolds, Paper(200, 9).punch, [199], 0)
        self.refused(NoFolds, Paper(200, 9).punch, list(range(200)), 0)

    def test_no_place(self):
        paper = worked(6, 2, ("punch", [2], 1))
        for folds, nowhere in (([], (-1, 6, 7, FAR, -FAR)), ([2], (-1, 3)), ([0, 1, 2, 3, 4], (-1, 1)),
                               ([0], (1, -5)), ([1], (2, -4, MOST_FIGURES))):
            for place in nowhere:
                self.refused(NoPlace, paper.punch, folds, place)
        self.refused(NoPlace, Paper(1, 9).punch, [], 1)
        self.refused(NoPlace, Paper(1, 9).punch, [], -1)
        self.refused(NoPlace, Paper(200, 9).punch, [], 200)

    def test_torn_bears_the_first_cell_without_a_pass(self):
        paper = worked(6, 1, ("punch", [], 4), ("punch", [], 5))
        self.refused(Torn, paper.punch, [2], 1, cell=4)
        self.refused(Torn, paper.punch, [2], 0, cell=5)
        self.refused(Torn, paper.punch, [0, 1, 2, 3, 4], 0, cell=4)
        paper.punch([], 1)
        self.refused(Torn, paper.punch, [0, 1, 2, 3, 4], 0, cell=1)
        self.assertEqual(written(paper.strip()), "1 0o 1 1 0o 0o")
        self.refused(Torn, Paper(1, 0).punch, [], 0, cell=0)
        self.refused(Torn, Paper(200, 0).punch, [], 199, cell=199)
        self.refused(Torn, Paper(200, 0).punch, [100], 99, cell=99)

    def test_a_patched_cell_without_a_pass_is_torn_all_the_same(self):
        paper = worked(3, 1, ("punch", [], 1), ("patch", 1))
        self.refused(Torn, paper.punch, [], 1, cell=1)

    def test_the_first_told_goes_first(self):
        paper = Paper(3, 0)
        self.refused(NoFolds, paper.punch, [2], 9)
        self.refused(NoFolds, paper.punch, [2], 0)
        self.refused(NoPlace, paper.punch, [], 9)
        self.refused(Torn, paper.punch, [], 0, cell=0)
        self.refused(NoWish, paper.do, [0, 3])
        self.refused(NoWish, paper.do, [1, 0])
        self.refused(NoPlan, paper.do, [0, 1], cell=0)
        self.refused(NoCell, paper.patch, 3)
        self.refused(Whole, paper.patch, 2)

    def test_no_cell_and_whole(self):
        paper = worked(6, 2, ("punch", [2], 1))
        for cell in (-1, -2, -5, -6, 6, 7, 200, FAR, -FAR, MOST_FIGURES):
            self.refused(NoCell, paper.patch, cell)
        for cell in (0, 2, 3, 5):
            self.refused(Whole, paper.patch, cell)
        paper.patch(4)
        self.refused(Whole, paper.patch, 4)
        self.refused(Whole, Paper(200, 99).patch, 199)
        self.refused(NoCell, Paper(200, 99).patch, 200)

    def test_no_wish(self):
        paper = worked(6, 2, ("punch", [2], 1))
        for wish in ([1], [4], [0, 1], [0, 0], [2, 0], [-1], [-6], [6], [0, 6], [FAR], [-MOST_FIGURES], [0, 2, 3, 3]):
            self.refused(NoWish, paper.do, wish)
            self.refused(NoWish, paper.fewest, wish)

    def test_no_plan_bears_the_first_wished_cell_without_a_pass(self):
        paper = worked(6, 1, ("punch", [], 2), ("patch", 2), ("punch", [], 4), ("patch", 4))
        for wish, cell in (([2], 2), ([4], 4), ([2, 4], 2), ([0, 1, 4], 4), ([0, 1, 2, 3, 4, 5], 2), ([3, 4, 5], 4)):
            self.refused(NoPlan, paper.do, wish, cell=cell)
            self.assertIsNone(paper.fewest(wish))
        self.refused(NoPlan, Paper(1, 0).do, [0], cell=0)
        self.refused(NoPlan, Paper(200, 0).do, [137, 138], cell=137)
        self.assertEqual(paper.do([0, 1]), [[0, 1]])

    def test_no_mark(self):
        paper = Paper(6, 2)
        for mark in (0, -1, 1, FAR, -FAR):
            self.refused(NoMark, paper.undo, mark)
        paper.mark()
        paper.punch([], 0)
        paper.mark()
        for mark in (-1, -2, 2, 3, FAR, -FAR, MOST_FIGURES, -MOST_FIGURES):
            self.refused(NoMark, paper.undo, mark)
        self.assertEqual(paper.mark(), 2)


class PunchTest(unittest.TestCase):
    def test_ordinary_punches(self):
        paper = Paper(6, 2)
        self.assertEqual(paper.punch([2], 1), [1, 4])
        self.assertEqual(written(paper.strip()), "2 1o 2 2 1o 2")
        self.assertEqual(paper.punch([2], 2), [2, 3])
        self.assertEqual(paper.punch([], 4), [4])
        self.assertEqual(written(paper.strip()), "2 1o 1o 1o 0o 2")
        self.assertEqual(paper.counts(), [0, 1, 1, 1, 2, 0])
        self.assertEqual(paper.punch([0, 1, 2], 0), [0, 1, 2, 3])
        self.assertEqual(written(paper.strip()), "1o 0o 0o 0o 0o 2")

    def test_places_below_nought(self):
        paper = Paper(6, 2)
        self.assertEqual(paper.punch([0], -4), [5])
        self.assertEqual(paper.punch([0, 3], -2), [3, 4])
        self.assertEqual(paper.punch([0], 0), [0, 1])
        self.assertEqual(paper.counts(), [1, 1, 0, 1, 1, 1])

    def test_one_cell(self):
        paper = Paper(1, 99)
        for times in range(1, 100):
            self.assertEqual(paper.punch([], 0), [0])
            self.assertEqual(state_of(paper), ([(True, 99 - times)], [times]))
        self.assertEqual(outcome(paper.punch, [], 0), ("Torn", 0))
        self.assertEqual(state_of(paper), ([(True, 0)], [99]))

    def test_two_hundred_cells(self):
        for left in (1, 99):
            paper = Paper(200, left)
            self.assertEqual(paper.strip(), [(False, left)] * 200)
            self.assertEqual(paper.punch(list(range(199)), 0), list(range(200)))
            self.assertEqual(paper.strip(), [(True, left - 1)] * 200)
            self.assertEqual(paper.counts(), [1] * 200)
        self.assertEqual(paper.punch([99], 0), [0, 199])
        self.assertEqual(paper.punch([], 199), [199])
        self.assertEqual(paper.counts(), [2, *[1] * 198, 3])

    def test_the_kinds_of_what_is_told(self):
        paper = Paper(6, 2)
        told = paper.punch([2], 1)
        self.assertEqual([type(told), type(told[0])], [list, int])
        self.assertIs(type(paper.strip()), list)
        for holed, left in paper.strip():
            self.assertEqual([type(holed), type(left)], [bool, int])
        self.assertEqual({type(cell) for cell in paper.strip()}, {tuple})
        self.assertEqual({type(times) for times in [paper.counts()[0], *paper.counts()]}, {int})
        self.assertIs(type(paper.mark()), int)
        self.assertIs(type(paper.fewest([0])), int)
        punches = paper.do([0])
        self.assertEqual([type(punches), type(punches[0]), type(punches[0][0])], [list, list, int])

    def test_what_tells_nothing_gives_none(self):
        paper = Paper(6, 2)
        paper.mark()
        paper.punch([], 3)
        self.assertIsNone(paper.patch(3))
        self.assertIsNone(paper.undo(0))
        self.assertIsNone(paper.undo(0))


class PatchTest(unittest.TestCase):
    def test_it_is_whole_and_its_passes_and_counts_stay(self):
        paper = worked(4, 3, ("punch", [], 1), ("punch", [], 1), ("punch", [2], 2))
        self.assertIsNone(paper.patch(1))
        self.assertEqual(written(paper.strip()), "3 1 2o 2o")
        self.assertEqual(paper.counts(), [0, 2, 1, 1])
        self.assertEqual(paper.do([1]), [[1]])
        self.assertEqual(written(paper.strip()), "3 0o 2o 2o")
        self.assertEqual(paper.counts(), [0, 3, 1, 1])
        paper.patch(1)
        self.assertEqual(written(paper.strip()), "3 0 2o 2o")

    def test_the_first_and_the_last_cell(self):
        for many in (1, 2, 200):
            paper = worked(many, 2, ("punch", [], 0), ("punch", [], many - 1))
            paper.patch(0)
            self.assertIs(paper.strip()[0][0], False)
            if many > 1:
                self.assertIs(paper.strip()[-1][0], True)
                paper.patch(many - 1)
            self.assertEqual([holed for holed, _ in paper.strip()], [False] * many)


class DoTest(unittest.TestCase):
    def test_ordinary_wishes(self):
        paper = worked(8, 2, ("punch", [], 1), ("punch", [], 3))
        self.assertEqual(paper.fewest([0, 2, 4]), 1)
        self.assertEqual(paper.do([0, 2, 4]), [[0, 1, 2, 3, 4]])
        self.assertEqual(written(paper.strip()), "1o 0o 1o 0o 1o 2 2 2")
        self.assertEqual(paper.do([6]), [[6]])
        self.assertEqual(paper.do([5, 7]), [[4, 5, 6, 7]])
        self.assertEqual(written(paper.strip()), "1o 0o 1o 0o 0o 1o 0o 1o")
        self.assertEqual(paper.counts(), [1, 2, 1, 2, 2, 1, 2, 1])

    def test_the_empty_wish(self):
        for many, left in ((1, 0), (1, 99), (6, 2), (200, 0), (200, 99)):
            paper = Paper(many, left)
            self.assertEqual(paper.do([]), [])
            self.assertEqual(paper.fewest([]), 0)
            self.assertEqual(state_of(paper), ([(False, left)] * many, [0] * many))

    def test_two_hundred_cells(self):
        paper = Paper(200, 1)
        self.assertEqual(paper.fewest(list(range(0, 200, 2))), 100)
        self.assertEqual(paper.do(list(range(200))), [list(range(200))])
        self.assertEqual(state_of(paper), ([(True, 0)] * 200, [1] * 200))
        paper = Paper(200, 99)
        self.assertEqual(paper.do(list(range(1, 200, 2))), [[cell] for cell in range(199, 0, -2)])
        self.assertEqual(paper.fewest(list(range(0, 200, 2))), 1)

    def test_it_is_the_plan_of_the_strip_as_it_is(self):
        for many, left, times in ((1, 9, 5), (5, 3, 30), (9, 2, 30), (40, 4, 8), (200, 3, 3)):
            for seed in range(times):
                paper, other = Paper(many, left), Paper(many, left)
                for again in range(5):
                    wish = some_wish(paper.strip(), 0.4, seed * 10 + again)
                    strip = paper.strip()
                    self.assertEqual(paper.fewest(wish), fewest(strip, wish))
                    told = plan(strip, wish)
                    self.assertEqual(paper.do(wish), told)
                    for cells, (folds, place) in zip(told, ways(many, told)):
                        self.assertEqual(other.punch(folds, place), cells)
                    self.assertEqual(state_of(paper), state_of(other))
                    newly = [cell for cell in range(many) if paper.strip()[cell][0] and not strip[cell][0]]
                    self.assertEqual(newly, wish)
                    for cell in newly[::2]:
                        paper.patch(cell)
                        other.patch(cell)

    def test_its_counts_are_those_of_its_punches(self):
        paper = Paper(9, 4)
        times = [0] * 9
        for wish in ([0, 3, 4], [1, 2, 8], [5, 7], [6]):
            for cells in paper.do(wish):
                for cell in cells:
                    times[cell] += 1
            self.assertEqual(paper.counts(), times)
            self.assertEqual(passes(paper), [4 - often for often in times])


class MarkTest(unittest.TestCase):
    def test_numbers_from_nought_on(self):
        paper = Paper(3, 5)
        for number in range(400):
            self.assertEqual(paper.mark(), number)
        self.assertEqual(state_of(paper), ([(False, 5)] * 3, [0] * 3))

    def test_all_is_as_when_the_mark_was_made(self):
        paper = Paper(4, 3)
        states = []
        for deed in ((paper.punch, [], 1), (paper.punch, [1], 1), (paper.patch, 1), (paper.do, [0, 3]),
                     (paper.punch, [0, 1, 2], 0)):
            self.assertEqual(paper.mark(), len(states))
            states.append(state_of(paper))
            deed[0](*deed[1:])
        self.assertEqual(written(states[-1][0]), "2o 1 2o 2o")
        for mark in range(4, -1, -1):
            paper.undo(mark)
            self.assertEqual(state_of(paper), states[mark])
        self.assertEqual(state_of(paper), ([(False, 3)] * 4, [0] * 4))

    def test_undone_to_again(self):
        paper = worked(4, 3, ("punch", [], 2), ("mark",))
        state = state_of(paper)
        for deed in ((paper.punch, [], 2), (paper.patch, 2), (paper.do, [0, 1, 3]), (paper.punch, [1], 1)):
            for _ in range(2):
                deed[0](*deed[1:])
                self.assertNotEqual(state_of(paper), state)
                paper.undo(0)
                self.assertEqual(state_of(paper), state)
        paper.undo(0)
        self.assertEqual(state_of(paper), state)

    def test_later_marks_are_gone_and_the_next_has_the_number_behind(self):
        paper = Paper(4, 9)
        for place in range(4):
            self.assertEqual(paper.mark(), place)
            paper.punch([], place)
        paper.undo(1)
        self.assertEqual(paper.counts(), [1, 0, 0, 0])
        for gone in (2, 3, 4):
            self.assertEqual(outcome(paper.undo, gone), ("NoMark", None))
        paper.punch([], 3)
        self.assertEqual(paper.mark(), 2)
        paper.punch([], 3)
        self.assertEqual(outcome(paper.undo, 3), ("NoMark", None))
        paper.undo(2)
        self.assertEqual(paper.counts(), [1, 0, 0, 1])
        paper.undo(1)
        self.assertEqual(paper.counts(), [1, 0, 0, 0])
        paper.undo(0)
        self.assertEqual(paper.counts(), [0, 0, 0, 0])
        self.assertEqual(outcome(paper.undo, 1), ("NoMark", None))
        self.assertEqual(paper.mark(), 1)

    def test_undone_to_the_last_mark_it_stands(self):
        paper = worked(2, 9, ("mark",), ("punch", [], 0), ("mark",))
        paper.undo(1)
        self.assertEqual(paper.counts(), [1, 0])
        self.assertEqual(paper.mark(), 2)
        paper.undo(2)
        paper.undo(0)
        self.assertEqual(paper.counts(), [0, 0])

    def test_what_is_refused_leaves_the_marks(self):
        paper = worked(4, 1, ("mark",), ("punch", [], 0), ("mark",), ("punch", [], 1))
        for method, arguments in ((paper.undo, [2]), (paper.undo, [-1]), (paper.punch, [[], 0]), (paper.patch, [3]),
                                  (paper.do, [[0]]), (paper.punch, [[], 9])):
            self.assertIn(outcome(method, *arguments)[0], ("NoMark", "Torn", "Whole", "NoWish", "NoPlace"))
        paper.undo(1)
        self.assertEqual(paper.counts(), [1, 0, 0, 0])
        paper.undo(0)
        self.assertEqual(paper.counts(), [0, 0, 0, 0])


class OwnTest(unittest.TestCase):
    def test_what_was_told_changed_behind_the_call(self):
        paper = Paper(6, 3)
        paper.mark()
        told = [paper.punch([2], 1), paper.do([0]), paper.do([2, 3]), paper.strip(), paper.counts()]
        self.assertEqual(told[:3], [[1, 4], [[0]], [[2, 3]]])
        state = state_of(paper)
        kept = copy.deepcopy(state)
        told[1][0].append(5)
        told[2][0].clear()
        for one in told:
            one.append(77)
            one[0] = -78
            one.reverse()
        self.assertEqual(state_of(paper), kept)
        self.assertEqual(state, kept)
        paper.undo(0)
        paper.strip().clear()
        paper.counts()[0] = 9
        self.assertEqual(state_of(paper), ([(False, 3)] * 6, [0] * 6))
        for list_told in state_of(paper):
            list_told.clear()
        paper.undo(0)
        self.assertEqual(state_of(paper), ([(False, 3)] * 6, [0] * 6))

    def test_no_two_told_lists_are_one(self):
        paper = Paper(6, 9)
        told = [paper.strip(), paper.strip(), paper.counts(), paper.counts(), paper.punch([], 0), paper.punch([], 0),
                paper.do([]), paper.do([]), *paper.do([1, 3]), *paper.do([2, 4])]
        paper.mark()
        told += [paper.strip(), paper.counts()]
        paper.undo(0)
        told += [paper.strip(), paper.counts()]
        paper.undo(0)
        told += [paper.strip(), paper.counts()]
        self.assertEqual(len({id(one) for one in told}), len(told))

    def test_what_was_handed_in_is_unchanged_and_not_kept(self):
        paper = Paper(6, 3)
        folds, wish = [2], [0, 5]
        self.assertEqual(paper.punch(folds, 1), [1, 4])
        self.assertEqual(paper.do(wish), [[0, 5]])
        self.assertEqual((folds, wish), ([2], [0, 5]))
        state = copy.deepcopy(state_of(paper))
        folds.append(9)
        wish[:] = [2]
        self.assertEqual(state_of(paper), state)
        self.assertEqual(outcome(paper.punch, folds, 1), ("NoFolds", None))
        self.assertEqual(paper.do(wish), [[2]])
        folds[:] = [0]
        self.assertEqual(paper.punch(folds, 0), [0, 1])

    def test_two_papers_know_nothing_of_one_another(self):
        one, other = Paper(4, 2), Paper(4, 2)
        one.mark()
        one.punch([1], 1)
        one.do([0, 3])
        self.assertEqual(state_of(other), ([(False, 2)] * 4, [0] * 4))
        self.assertEqual(outcome(other.undo, 0), ("NoMark", None))
        self.assertEqual(other.mark(), 0)
        other.punch([], 0)
        self.assertEqual(one.counts(), [1, 1, 1, 1])
        other.undo(0)
        self.assertEqual(one.counts(), [1, 1, 1, 1])

    def test_arguments_by_their_names_in_any_order(self):
        for paper in (Paper(4, 2), Paper(many=4, left=2), Paper(left=2, many=4), Paper(4, left=2)):
            self.assertEqual(paper.strip(), [(False, 2)] * 4)
            self.assertEqual(paper.mark(), 0)
            self.assertEqual(paper.punch(folds=[1], place=1), [1, 2])
            self.assertEqual(paper.punch(place=0, folds=[]), [0])
            self.assertEqual(paper.punch([], place=3), [3])
            self.assertIsNone(paper.patch(cell=0))
            self.assertEqual(paper.fewest(wish=[0]), 1)
            self.assertEqual(paper.do(wish=[0]), [[0]])
            self.assertEqual(paper.counts(), [2, 1, 1, 1])
            self.assertIsNone(paper.undo(mark=0))
            self.assertEqual(state_of(paper), ([(False, 2)] * 4, [0] * 4))

    def test_asks_change_nothing(self):
        paper = worked(6, 2, ("punch", [2], 1))
        state = copy.deepcopy(state_of(paper))
        for wish in ([], [0], [0, 2, 5], [0, 3]):
            self.assertEqual(paper.fewest(wish), fewest(state[0], wish))
            self.assertEqual(state_of(paper), state)

    def test_the_strip_may_be_handed_in(self):
        paper = worked(4, 2, ("punch", [], 1))
        self.assertEqual(read(written(paper.strip())), paper.strip())


class ByWordsTest(unittest.TestCase):
    def check(self, many, left, times, seed):
        paper, other = Paper(many, left), PaperByWords(many, left)
        found = {}
        for name, arguments in some_deeds(many, times, seed):
            handed = copy.deepcopy(arguments)
            told = outcome(getattr(paper, name), *arguments)
            self.assertEqual(told, getattr(other, name)(*handed), (name, handed))
            self.assertEqual(arguments, handed)
            self.assertEqual(state_of(paper), (other.cells, other.times))
            word = told[0] if isinstance(told[0], str) else name
            found[word] = found.get(word, 0) + 1
        return found

    def test_deed_by_deed(self):
        found = {}
        for many, left, times in ((1, 0, 60), (1, 5, 300), (2, 9, 300), (4, 6, 300), (6, 20, 300), (9, 99, 300),
                                  (25, 30, 200), (60, 40, 60), (200, 99, 30), (200, 0, 30)):
            for seed in range(4):
                for word, often in self.check(many, left, times, seed).items():
                    found[word] = found.get(word, 0) + often
        for word in ("punch", "patch", "do", "mark", "undo", "fewest", "NoFolds", "NoPlace", "Torn", "NoCell", "Whole",
                     "NoWish", "NoPlan", "NoMark"):
            self.assertGreater(found.get(word, 0), 20, word)

    def test_four_hundred_deeds(self):
        paper, other = Paper(200, 99), PaperByWords(200, 99)
        for deed in range(98):
            for each in (paper, other):
                each.punch(list(range(deed, deed + 40)), deed)
                each.mark()
                each.do([deed + 90])
                each.patch(deed)
            self.assertEqual(state_of(paper), (other.cells, other.times))
        self.assertEqual(paper.mark(), 98)
        for mark in (97, 60, 60, 98, 99, 1, 0, 0, 1):
            self.assertEqual(outcome(paper.undo, mark), other.undo(mark))
            self.assertEqual(state_of(paper), (other.cells, other.times))
        self.assertEqual(paper.mark(), 1)


if __name__ == "__main__":
    unittest.main()
