"""What the tests reckon by the words of the document alone, mostly by going through everything."""

import functools
import random
from itertools import combinations, product


def foldings_of(many):
    """All foldings of so many cells."""
    return [list(folds) for size in range(many) for folds in combinations(range(many - 1), size)]


def laid(many, folds):
    """The place of each cell by the steps of point 5."""
    place, way, told = 0, 1, [0]
    for cell in range(many - 1):
        if cell in folds:
            way = -way
        else:
            place += way
        told.append(place)
    return told


def lists_of(cells):
    """All lists, not empty, of these cells, each an odd distance behind the one ahead."""
    return [list(some) for size in range(1, len(cells) + 1) for some in combinations(cells, size)
            if all((other - one) % 2 == 1 for one, other in zip(some, some[1:]))]


def foldings_by_list(many):
    """Of each list of cells that lies alone at a place: all foldings by which it does, rising."""
    found = {}
    for folds in foldings_of(many):
        places = laid(many, folds)
        for place in set(places):
            cells = tuple(cell for cell in range(many) if places[cell] == place)
            found.setdefault(cells, []).append(folds)
    return {cells: sorted(folds) for cells, folds in found.items()}


def wishes_of(strip):
    """All wishes of the strip, the empty one too."""
    whole = [cell for cell, (holed, _) in enumerate(strip) if not holed]
    return [list(some) for size in range(len(whole) + 1) for some in combinations(whole, size)]


def every_strip(many, most):
    """All strips of so many cells with passes up to the most."""
    return [list(cells) for cells in product(product((False, True), range(most + 1)), repeat=many)]


def some_strips(many, most, times, seed=1):
    """So many strips, the same ones each time, many of them with holes and with few passes."""
    chance = random.Random(seed * 1000 + many * 10 + most)
    return [[(chance.random() < 0.4, chance.choice([*range(most + 1), *range(1, most + 1)])) for _ in range(many)]
            for _ in range(times)]


def some_wish(strip, part, seed=1):
    """A wish of about such a part of the whole cells that have passes, the same one each time."""
    chance = random.Random(seed)
    return [cell for cell, (holed, left) in enumerate(strip) if not holed and left > 0 and chance.random() < part]


def fewest_by_punching(strip, wish):
    """The fewest punches of a plan, by going through all punches from the strip on, or None."""
    free = [cell for cell, (holed, _) in enumerate(strip) if holed or cell in wish]
    lists = lists_of(free)
    reached = {(0,) * len(strip)}
    known = set(reached)
    for many in range(len(wish) + 1):
        if any(all(times[cell] for cell in wish) for times in reached):
            return many
        ahead, reached = reached, set()
        for times in ahead:
            for cells in lists:
                after = list(times)
                for cell in cells:
                    after[cell] += 1
                if all(after[cell] <= strip[cell][1] for cell in cells):
                    reached.add(tuple(after))
        reached -= known
        known |= reached
    return None


def is_plan_by_words(strip, wish, plan):
    """Whether the lists are a plan, word by word of point 8."""
    for cells in plan:
        if not cells or any(not 0 <= cell < len(strip) for cell in cells):
            return False
        if any(other <= one or (other - one) % 2 == 0 for one, other in zip(cells, cells[1:])):
            return False
        if any(cell not in wish and not strip[cell][0] for cell in cells):
            return False
    times = [sum(cells.count(cell) for cells in plan) for cell in range(len(strip))]
    return all(times[cell] for cell in wish) and all(times[cell] <= strip[cell][1] for cell in range(len(strip)))


def plan_by_words(strip, wish, fewest):
    """The plan of the walk of point 10, each step tried."""
    def choices(cell):
        holed, left = strip[cell]
        if cell in wish:
            return range(1, left + 1)
        return range(left + 1) if holed else range(1)

    def after(cell, stand, times):
        return stand - times if cell % 2 else stand + times

    @functools.lru_cache(None)
    def goes_on(cell, stand):
        if not 0 <= stand <= fewest:
            return False
        return cell == len(strip) or any(goes_on(cell + 1, after(cell, stand, times)) for times in choices(cell))

    stand = [stand for stand in range(fewest + 1) if goes_on(0, stand)][0]
    punches = [[] for _ in range(fewest)]
    for cell in range(len(strip)):
        times = [times for times in choices(cell) if goes_on(cell + 1, after(cell, stand, times))][0]
        for _ in range(times):
            following = after(cell, stand, 1)
            punches[min(stand, following)].append(cell)
            stand = following
    return punches


def stretches_of(many):
    """All stretches of so many cells, rising."""
    return [(first, last, parity) for first in range(many) for last in range(first, many) for parity in (0, 1)]


def worth_by_words(strip, wish, stretch):
    """The worth of a stretch, word by word of point 9."""
    first, last, parity = stretch
    cells = range(first, last + 1)
    wished = [cell for cell in cells if cell % 2 == parity and cell in wish]
    others = [cell for cell in cells if cell % 2 != parity and (cell in wish or strip[cell][0])]
    return len(wished) - sum(strip[cell][1] for cell in others)


def fewest_by_stretches(strip, wish):
    """The fewest punches by the words of point 10: None, nought or the greatest worth."""
    if any(strip[cell][1] == 0 for cell in wish):
        return None
    if not wish:
        return 0
    return max(worth_by_words(strip, wish, stretch) for stretch in stretches_of(len(strip)))


def tight_by_stretches(strip, wish):
    """All stretches whose worth is the fewest, rising; none of the empty wish and where there is no plan."""
    fewest = fewest_by_stretches(strip, wish)
    if not fewest:
        return []
    return [stretch for stretch in stretches_of(len(strip)) if worth_by_words(strip, wish, stretch) == fewest]


def changed(strip, cell, holed, left):
    """The strip with another cell in the place of the cell."""
    return [(holed, left) if at == cell else other for at, other in enumerate(strip)]


def wear_by_trying(strip, wish, fewest_of):
    """(cheaper, dearer, helpful) by trying each cell, the fewest told by the function handed in."""
    now = fewest_of(strip, wish)
    told = ([], [], [])
    if not now:
        return told
    for cell, (holed, left) in enumerate(strip):
        if holed or cell in wish:
            if fewest_of(changed(strip, cell, holed, left + 1), wish) < now:
                told[0].append(cell)
            less = fewest_of(changed(strip, cell, holed, left - 1), wish) if left else now
            if less is None or less > now:
                told[1].append(cell)
        elif fewest_of(changed(strip, cell, True, left), wish) < now:
            told[2].append(cell)
    return told


def seen_by_stretches(counts):
    """The fewest punches that make the counts, by going through all stretches."""
    def sum_of(first, last, parity):
        return sum(counts[cell] if cell % 2 == parity else -counts[cell] for cell in range(first, last + 1))

    return max(sum_of(*stretch) for stretch in stretches_of(len(counts)))


def fewest_by_sums(strip, wish):
    """The fewest punches as by the stretches, but soon reckoned: by the sums ahead of each cell."""
    if any(strip[cell][1] == 0 for cell in wish):
        return None
    best = 0
    for parity in (0, 1):
        sums = [0]
        for cell in range(len(strip)):
            sums.append(sums[-1] + worth_by_words(strip, wish, (cell, cell, parity)))
        best = max([best, *(last - first for first, last in combinations(sums, 2))])
    return best


def is_wish_by_words(strip, wish):
    """Whether the list is a wish: rising, of whole cells of the strip."""
    return wish == sorted(set(wish)) and all(0 <= cell < len(strip) and not strip[cell][0] for cell in wish)


class PaperByWords:
    """A paper, word by word of points 13 and 14; each deed tells (told, None) or (the refusal's name, the cell)."""

    def __init__(self, many, left):
        self.cells = [(False, left)] * many
        self.times = [0] * many
        self.marked = []

    def _through(self, cells):
        self.cells = [(True, left - 1) if cell in cells else (holed, left)
                      for cell, (holed, left) in enumerate(self.cells)]
        self.times = [times + (cell in cells) for cell, times in enumerate(self.times)]

    def punch(self, folds, place):
        many = len(self.cells)
        if folds != sorted(set(folds)) or any(not 0 <= crease <= many - 2 for crease in folds):
            return "NoFolds", None
        cells = [cell for cell, at in enumerate(laid(many, folds)) if at == place]
        if not cells:
            return "NoPlace", None
        without = [cell for cell in cells if self.cells[cell][1] == 0]
        if without:
            return "Torn", without[0]
        self._through(cells)
        return cells, None

    def patch(self, cell):
        if cell not in range(len(self.cells)):
            return "NoCell", None
        holed, left = self.cells[cell]
        if not holed:
            return "Whole", None
        self.cells = changed(self.cells, cell, False, left)
        return None, None

    def do(self, wish):
        if not is_wish_by_words(self.cells, wish):
            return "NoWish", None
        without = [cell for cell in wish if self.cells[cell][1] == 0]
        if without:
            return "NoPlan", without[0]
        told = plan_by_words(self.cells, wish, fewest_by_sums(self.cells, wish))
        for cells in told:
            self._through(cells)
        return told, None

    def mark(self):
        self.marked = [*self.marked, (self.cells, self.times)]
        return len(self.marked) - 1, None

    def undo(self, mark):
        if mark not in range(len(self.marked)):
            return "NoMark", None
        self.cells, self.times = self.marked[mark]
        self.marked = self.marked[:mark + 1]
        return None, None

    def strip(self):
        return self.cells, None

    def fewest(self, wish):
        if not is_wish_by_words(self.cells, wish):
            return "NoWish", None
        return fewest_by_sums(self.cells, wish), None

    def counts(self):
        return self.times, None


def some_deeds(many, times, seed=1):
    """So many deeds and asks at a paper of so many cells, (name, arguments), some to be refused; the same each time."""
    chance = random.Random(seed * 1000 + many)

    def numbers(end, part):
        told = [number for number in range(end) if chance.random() < part]
        if chance.random() < 0.05:
            told.insert(chance.randrange(len(told) + 1), chance.choice([-1, 0, end - 1, end, end + 1]))
        return told

    def deed():
        kind = chance.random()
        if kind < 0.4:
            return "punch", (numbers(many - 1, chance.choice([0, 0.2, 0.5])), chance.randrange(-2, max(3, many // 2)))
        if kind < 0.55:
            return "patch", (chance.randrange(-1, many + 1),)
        if kind < 0.7:
            return "do", (numbers(many, chance.choice([0, 0.1, 0.3, 2 / many])),)
        if kind < 0.8:
            return "mark", ()
        if kind < 0.87:
            return "undo", (chance.randrange(-1, 9),)
        return "fewest", (numbers(many, chance.choice([0, 0.2, 2 / many])),)

    return [deed() for _ in range(times)]


def laid_round(many, folds):
    """The places of the cells of a ring by the steps of point 5, that of cell 0 again behind them, and its way."""
    place, way, told = 0, 1, [0]
    for cell in range(many):
        if cell in folds:
            way = -way
        else:
            place += way
        told.append(place)
    return told, way


def ring_foldings_of(many):
    """All foldings of a ring of so many cells: the creases by which cell 0 comes to place 0 again, going upwards."""
    lists = [list(folds) for size in range(many + 1) for folds in combinations(range(many), size)]
    return [folds for folds in lists if (laid_round(many, folds)[0][-1], laid_round(many, folds)[1]) == (0, 1)]


def ring_foldings_by_list(many):
    """Of each list of cells of a ring that lies alone at a place: all foldings by which it does."""
    found = {}
    for folds in ring_foldings_of(many):
        places = laid_round(many, folds)[0][:-1]
        for place in set(places):
            cells = tuple(cell for cell in range(many) if places[cell] == place)
            found.setdefault(cells, []).append(folds)
    return found


def ring_lists_of(cells):
    """All lists of evenly many of these cells, not none, each an odd distance behind the one ahead."""
    return [some for some in lists_of(cells) if len(some) % 2 == 0]


def ring_fewest_by_punching(ring, wish):
    """The fewest punches of a plan, by going through all punches until no cell can bear more, or None."""
    lists = ring_lists_of([cell for cell, (holed, left) in enumerate(ring) if left and (holed or cell in wish)])
    reached, many = {tuple(left for _, left in ring)}, 0
    known = set(reached)
    while reached:
        if any(all(passes[cell] < ring[cell][1] for cell in wish) for passes in reached):
            return many
        ahead, reached = reached, set()
        for passes in ahead:
            for cells in lists:
                if all(passes[cell] for cell in cells):
                    reached.add(tuple(left - (cell in cells) for cell, left in enumerate(passes)))
        reached -= known
        known |= reached
        many += 1
    return None


def arcs_of(many):
    """All arcs of a ring of so many cells with either parity, rising."""
    return [("arc", first, cells, parity) for first in range(many) for cells in range(1, many) for parity in (0, 1)]


def ring_worth_by_words(ring, wish, stretch):
    """The worth of an arc or a round, word by word of points 9 and 18."""
    cells = range(len(ring))
    if stretch[0] == "arc":
        cells = [(stretch[1] + steps) % len(ring) for steps in range(stretch[2])]
    wished = [cell for cell in cells if cell % 2 == stretch[-1] and cell in wish]
    others = [cell for cell in cells if cell % 2 != stretch[-1] and (cell in wish or ring[cell][0])]
    return len(wished) - sum(ring[cell][1] for cell in others)


def ring_by_arcs(ring, wish):
    """(fewest, tight) by the words of point 18, by going through all arcs and rounds."""
    for cell in wish:
        if ring[cell][1] == 0:
            return None, ("torn", cell)
    for parity in (0, 1):
        if ring_worth_by_words(ring, wish, ("round", parity)) > 0:
            return None, ("round", parity)
    if not wish:
        return 0, None
    worths = {arc: ring_worth_by_words(ring, wish, arc) for arc in arcs_of(len(ring))}
    best = max(worths.values())
    return best, min(arc for arc, worth in worths.items() if worth == best)


def is_ring_plan_by_words(ring, wish, plan):
    """Whether the lists are a plan of a ring, word by word of points 8, 17 and 18."""
    return all(len(cells) % 2 == 0 for cells in plan) and is_plan_by_words(ring, wish, plan)


def far_laid_out(runs):
    """The strip of the cells of all runs, and the wish."""
    signs = "".join(pattern * times for pattern, times in runs)
    strip = [(sign in "o0", 1 if sign in "wo" else 0) for sign in signs]
    return strip, [cell for cell, sign in enumerate(signs) if sign == "w"]
