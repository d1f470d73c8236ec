"""Sessions: rows of text at a paper, each answered by a row."""

from pleatpunch.errors import NoCell, NoFolds, NoMark, NoPlace, NoPlan, NoWish, Torn, Whole
from pleatpunch.limits import MOST_CELLS, MOST_PASSES, is_number
from pleatpunch.paper import Paper
from pleatpunch.strips import written


def session(rows):
    """The answers to the rows, one behind the other, a row each."""
    paper = None
    answers = []
    for row in rows.split("\n"):
        words = _words(row)
        fresh = _fresh_paper(words)
        if fresh is not None:
            paper = fresh
            answers.append("ok")
        else:
            answers.append("?" if paper is None else _answer(paper, words))
    return "\n".join(answers)


def _words(row):
    """The row's first word and the numbers behind it; nothing where one of them is not so written."""
    words = row.split(" ")
    if not all([_is_whole_number(word) for word in words[1:]]):
        return []
    return [words[0], *[int(word) for word in words[1:]]]


def _is_whole_number(word):
    return is_number(word.removeprefix("-")) and word != "-0"


def _fresh_paper(words):
    """The paper of a row that begins one, None of every other row."""
    match words:
        case ["new", many, left] if 1 <= many <= MOST_CELLS and 0 <= left <= MOST_PASSES:
            return Paper(many, left)
        case _:
            return None


def _answer(paper, words):
    """What is told of the row at the paper: of a refused one the name of its class."""
    try:
        return _done(paper, words)
    except NoFolds:
        return "NoFolds"
    except NoPlace:
        return "NoPlace"
    except Torn:
        return "Torn"
    except NoCell:
        return "NoCell"
    except Whole:
        return "Whole"
    except NoWish:
        return "NoWish"
    except NoPlan:
        return "NoPlan"
    except NoMark:
        return "NoMark"


def _done(paper, words):
    """What the deed or the ask tells."""
    match words:
        case ["punch", place, *folds]:
            return _spaced(paper.punch(folds, place))
        case ["patch", cell]:
            paper.patch(cell)
            return "ok"
        case ["do", *wish]:
            punches = paper.do(wish)
            return " ".join([f"{_spaced(cells)};" for cells in punches])
        case ["fewest", *wish]:
            many = paper.fewest(wish)
            return "none" if many is None else str(many)
        case ["mark"]:
            return str(paper.mark())
        case ["undo", mark]:
            paper.undo(mark)
            return "ok"
        case ["strip"]:
            return written(paper.strip())
        case _:
            return "?"


def _spaced(cells):
    return " ".join([str(cell) for cell in cells])
