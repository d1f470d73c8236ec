"""Point 20: sessions."""

import unittest

from pleatpunch.sessions import session
from reckoning import PaperByWords, some_deeds

# A row that is not so written, at a paper of six cells.
NOT_SO_WRITTEN = [
    "", " ", "  ", "?", "ok", "none", "0", "5", "-", "punc 0", "punch", "punch ", "punch  0", "punch 0 ", " punch 0",
    "punch 0  2", "punch 0 2 ", "punch 00", "punch 01", "punch 0 02", "punch -0", "punch 0 -0", "punch +1", "punch 1.0",
    "punch a", "punch 0 a", "punch 0,2", "punch 1o", "punch --1", "punch -", "punch 1-",
    "punch - 1", "punch 1234567890", "punch 0000000000", "punch -1234567890", "punch -01", "punch 0 1234567890",
    "Punch 0", "PUNCH 0", "punch0",
    "punch 0;", "punch\\n0",
    "patch", "patch ", "patch  0", "patch 0 ", " patch 0", "patch 0 1", "patch 00", "patch -0", "patch a", "patch 1o",
    "patch 1000000000", "Patch 0", "patch0", "patched 0",
    "do ", "do  0", "do 0 ", " do", " do 0", "do 0  2", "do 00", "do -0", "do 0 01", "do a", "do 0;", "do 9999999999",
    "Do 0", "do0", "doo", "do, 0", "done",
    "fewest ", "fewest  0", "fewest 0 ", " fewest", "fewest 0  2", "fewest 01", "fewest -0", "fewest a", "Fewest",
    "fewest 0 1234567890", "few", "fewest0", "fewest 0.0",
    "mark ", " mark", "mark 0", "mark 0 1", "Mark", "marks", "mark  ", "mar", "mark -",
    "undo", "undo ", "undo  0", "undo 0 ", " undo 0", "undo 0 0", "undo 00", "undo -0", "undo a", "Undo 0", "undo0",
    "undo 0000000000", "undo 1234567890",
    "strip ", " strip", "strip 0", "Strip", "strips", "strip  ", "counts", "stacks",
    "new", "new ", "new 6", "new 6 ", "new  6 2", "new 6  2", "new 6 2 ", " new 6 2", "new 6 2 1", "new 0 2",
    "new -1 2", "new 201 2", "new 202 2", "new 6 100", "new 6 -1", "new 06 2", "new 6 02", "new 6 00", "new 6 -0",
    "new a 2", "new 6 a", "new 1000000006 2", "new 6 1000000002", "new 0 0", "new 0 100", "new 201 100", "New 6 2",
    "new6 2", "new 6,2", "new 999999999 1", "new 6 999999999", "new 6o 2", "new 6 2o", "new -6 2", "new 6 -2"]


def answers(*rows):
    """The answers to the rows, row by row."""
    return session("\n".join(rows)).split("\n")


def row_by_words(name, arguments):
    """The row that asks for the deed."""
    if name == "punch":
        folds, place = arguments
        return " ".join(map(str, ["punch", place, *folds]))
    numbers = arguments[0] if name in ("do", "fewest") else arguments
    return " ".join(map(str, [name, *numbers]))


def answer_by_words(name, told):
    """The row that answers the deed of which this is told."""
    if isinstance(told, str):
        return told
    if name == "punch":
        return " ".join(map(str, told))
    if name == "do":
        return " ".join(" ".join(map(str, cells)) + ";" for cells in told)
    if name in ("patch", "undo"):
        return "ok"
    if name == "strip":
        return " ".join(str(left) + "o" * holed for holed, left in told)
    return "none" if told is None else str(told)


class WordsTest(unittest.TestCase):
    def test_all_words_at_one_paper(self):
        told = [
            ("new 6 2", "ok"), ("strip", "2 2 2 2 2 2"), ("punch 1 2", "1 4"), ("mark", "0"), ("fewest 0 5", "1"),
            ("fewest", "0"), ("do 0 3", "0 3;"), ("do 2 5", "2 5;"), ("strip", "1o 1o 1o 1o 1o 1o"), ("mark", "1"),
            ("punch 0", "0"), ("patch 0", "ok"), ("fewest 0", "none"), ("do", ""), ("patch 5", "ok"),
            ("strip", "0 1o 1o 1o 1o 1"), ("undo 1", "ok"), ("fewest", "0"), ("undo 0", "ok"),
            ("strip", "2 1o 2 2 1o 2"), ("mark", "1"), ("fewest 0 2", "1"), ("fewest 0 2 3 5", "1"), ("punch 0", "0")]
        self.assertEqual(answers(*[row for row, _ in told]), [answer for _, answer in told])

    def test_the_kinds_of_what_is_told(self):
        for rows in ("", "new 6 2", "new 6 2\nstrip\n", "mark"):
            self.assertIs(type(session(rows)), str)
            self.assertIs(type(session(rows=rows)), str)
            self.assertEqual(session(rows=rows), session(rows))

    def test_a_row_for_each(self):
        self.assertEqual(session(""), "?")
        self.assertEqual(session("\n"), "?\n?")
        self.assertEqual(session("new 1 1"), "ok")
        self.assertEqual(session("new 1 1\n"), "ok\n?")
        self.assertEqual(session("\nnew 1 1\n\nmark"), "?\nok\n?\n0")
        self.assertEqual(session("new 1 1\ndo"), "ok\n")
        self.assertEqual(session("new 1 1\ndo\ndo"), "ok\n\n")
        self.assertEqual(session("new 1 1\ndo\nmark"), "ok\n\n0")

    def test_new(self):
        for row in ("new 1 0", "new 1 99", "new 200 0", "new 200 99", "new 2 1"):
            _, many, left = row.split(" ")
            self.assertEqual(answers(row, "strip"), ["ok", " ".join([left] * int(many))])

    def test_a_second_new_is_a_paper_anew(self):
        self.assertEqual(
            answers("new 3 2", "punch 1", "mark", "mark", "new 2 1", "strip", "undo 0", "mark", "do 0 1", "undo 0",
                    "new 2 1", "strip", "undo 0"),
            ["ok", "1", "0", "1", "ok", "1 1", "NoMark", "0", "0 1;", "ok", "ok", "1 1", "NoMark"])

    def test_punch(self):
        self.assertEqual(
            answers("new 6 3", "punch 0", "punch 0 0 1 2 3 4", "punch -4 0", "punch 2 2", "punch -1 0 2", "strip"),
            ["ok", "0", "0 1 2 3 4 5", "5", "2 3", "2 3", "1o 2o 0o 0o 2o 1o"])
        self.assertEqual(answers("new 200 1", "punch 199", "punch 0 " + " ".join(map(str, range(199))))[1:],
                         ["199", "Torn"])
        self.assertEqual(answers("new 200 2", "punch 0 " + " ".join(map(str, range(199))))[1:],
                         [" ".join(map(str, range(200)))])

    def test_do(self):
        self.assertEqual(answers("new 7 1", "do 0 2 5", "do 1 3 6", "strip", "do 4"),
                         ["ok", "0; 2 5;", "3 6; 1;", "0o 0o 0o 0o 1 0o 0o", "4;"])
        self.assertEqual(answers("new 200 1", "do " + " ".join(map(str, range(200))))[1],
                         " ".join(map(str, range(200))) + ";")

    def test_numbers_of_nine_figures(self):
        self.assertEqual(
            answers("new 6 2", "patch 999999999", "patch -999999999", "undo 123456789", "do 999999999",
                    "punch -999999999", "punch 999999999 2", "punch 0 100000000", "fewest -100000000"),
            ["ok", "NoCell", "NoCell", "NoMark", "NoWish", "NoPlace", "NoPlace", "NoFolds", "NoWish"])


class RefusedTest(unittest.TestCase):
    def test_each_by_its_class(self):
        self.assertEqual(
            answers("new 4 1", "punch 0 3", "punch 9 1 1", "punch 7", "punch -1", "punch 1", "punch 1", "punch 0 0",
                    "patch 4", "patch -1", "patch 0", "do 1", "do 2 0", "do 4", "fewest 1", "fewest -1", "patch 1",
                    "do 1", "do 0 1", "undo 0", "undo -1", "mark", "undo 1"),
            ["ok", "NoFolds", "NoFolds", "NoPlace", "NoPlace", "1", "Torn", "Torn", "NoCell", "NoCell", "Whole",
             "NoWish", "NoWish", "NoWish", "NoWish", "NoWish", "ok", "NoPlan", "NoPlan", "NoMark", "NoMark", "0",
             "NoMark"])

    def test_what_is_refused_changes_nothing(self):
        rows = ["new 4 1", "mark", "punch 1", "mark", "patch 1"]
        for refused in ("punch 0 0", "punch 0 3", "punch 4", "patch 9", "patch 3", "do 0 0", "do 1", "undo 2",
                        "fewest 9"):
            told = answers(*rows, "strip", refused, "strip", "mark", "undo 1", "strip", "undo 0", "strip")
            self.assertEqual(told[5], told[7])
            self.assertRegex(told[6], "^[NTW][a-zA-Z]+$")
            self.assertEqual(told[8:], ["2", "ok", "1 0o 1 1", "ok", "1 1 1 1"], refused)


class NotSoWrittenTest(unittest.TestCase):
    def test_each_row_at_a_paper(self):
        for row in NOT_SO_WRITTEN:
            told = answers("new 6 2", "mark", "punch 1", row, "strip", "mark", "undo 0", "strip")
            self.assertEqual(told, ["ok", "0", "1", "?", "2 1o 2 2 2 2", "1", "ok", "2 2 2 2 2 2"], repr(row))

    def test_each_row_alone(self):
        for row in NOT_SO_WRITTEN:
            self.assertEqual(session(row), "?", repr(row))

    def test_all_rows_ahead_of_the_first_new(self):
        rows = ["mark", "punch 0", "punch 0 0", "patch 0", "do", "do 0", "fewest", "fewest 0", "undo 0", "strip",
                "new 0 1", "new 201 1", "new 1 100", "new 5", "what"]
        for row in rows:
            self.assertEqual(answers(row, "new 2 1", "mark"), ["?", "ok", "0"], row)
        self.assertEqual(answers(*rows, "new 1 1", "mark", "strip"), ["?"] * len(rows) + ["ok", "0", "1"])
        self.assertEqual(answers(*rows), ["?"] * len(rows))

    def test_four_thousand_signs(self):
        self.assertEqual(session("x" * 4000), "?")
        self.assertEqual(session("new " + "1" * 3996), "?")
        self.assertEqual(session("new 1 1\npunch " + "1" * 3986), "ok\n?")
        self.assertEqual(session("new 1 1\npunch " + "-" * 3986), "ok\n?")
        self.assertEqual(session("\n" * 3999), "\n".join(["?"] * 4000))
        self.assertEqual(answers("new 1 1", *["mark"] * 400), ["ok", *map(str, range(400))])


class ByWordsTest(unittest.TestCase):
    def test_deed_by_deed(self):
        found = set()
        for many, left, times in ((1, 2, 60), (2, 9, 100), (4, 3, 100), (7, 8, 100), (30, 40, 40), (200, 99, 8)):
            for seed in range(3):
                paper = PaperByWords(many, left)
                rows, told = [f"new {many} {left}"], ["ok"]
                for name, arguments in some_deeds(many, times, seed):
                    for name, arguments in ((name, arguments), ("strip", ())):
                        rows.append(row_by_words(name, arguments))
                        told.append(answer_by_words(name, getattr(paper, name)(*arguments)[0]))
                self.assertEqual(answers(*rows), told)
                found |= set(told)
        self.assertLessEqual({"NoFolds", "NoPlace", "Torn", "NoCell", "Whole", "NoWish", "NoPlan", "NoMark", "ok",
                              "none", ""}, found)

    def test_sessions_know_nothing_of_one_another(self):
        self.assertEqual(session("new 3 1\nmark\npunch 1"), "ok\n0\n1")
        self.assertEqual(session("strip\nundo 0"), "?\n?")
        self.assertEqual(session("new 3 1\nstrip\nundo 0"), "ok\n1 1 1\nNoMark")


if __name__ == "__main__":
    unittest.main()
