"""Points 4 and 15, and point 2 as far as pleatpunch.strips goes."""

import unittest

from pleatpunch.errors import NoCell, NoText
from pleatpunch.strips import glued, parted, read, turned, written

ORDINARY = [
    ("3 0o 12", [(False, 3), (True, 0), (False, 12)]),
    ("0", [(False, 0)]),
    ("0o", [(True, 0)]),
    ("99 99o", [(False, 99), (True, 99)]),
    ("10 9o 1 20o", [(False, 10), (True, 9), (False, 1), (True, 20)]),
]

NOT_WRITTEN_SO = [
    "", " ", "  ", "\n", "o", "oo", "o3", "3 o", "o 3",
    " 3", "3 ", "3  4", "3 0o ", " 3 0o", "3\n", "\n3", "3\n4", "3 4\n", "3\t4", "3o\n", "3\r",
    "00", "01", "00o", "01o", "007", "3 05 1",
    "100", "100o", "3 100", "999", "1000", "0100",
    "-1", "-0", "+1", "1.0", "1_0", "0x1", "1e1", "3,4", "3;4", "3%",
    "3O", "3 0O", "3oo", "3o4", "3o4o", "3ox", "x", "3 x 4", "3x", "None", "True",
    "\u0663", "\u00b2", "\uff13", "3\u00a04", "3\u2003", "\u00b9o", "\ud800",
    "9" * 30, "9" * 4000, "9" * 9000, "o" * 9000, "3 " + "1" * 9000 + "o",
]


def many_cells(many):
    return [(at % 3 == 0, at % 100) for at in range(many)]


class TextTest(unittest.TestCase):
    def test_ordinary_texts_are_read(self):
        for text, strip in ORDINARY:
            self.assertEqual(read(text), strip)

    def test_ordinary_strips_are_written(self):
        for text, strip in ORDINARY:
            self.assertEqual(written(strip), text)

    def test_the_kinds_of_what_is_read(self):
        strip = read("3 0o")
        self.assertIs(type(strip), list)
        for cell in strip:
            self.assertIs(type(cell), tuple)
            self.assertEqual([type(part) for part in cell], [bool, int])

    def test_each_number_of_passes(self):
        for left in range(100):
            for holed, text in ((False, f"{left}"), (True, f"{left}o")):
                self.assertEqual(read(text), [(holed, left)])
                self.assertEqual(written([(holed, left)]), text)

    def test_a_hundred_passes_and_more(self):
        for left in (100, 101, 199, 990, 1000, 10 ** 29):
            for text in (f"{left}", f"{left}o", f"3 {left} 4"):
                with self.assertRaises(NoText):
                    read(text)

    def test_how_many_cells(self):
        for many in (1, 2, 199, 200):
            strip = many_cells(many)
            self.assertEqual(read(written(strip)), strip)
            self.assertEqual(read(" ".join(["0"] * many)), [(False, 0)] * many)
        for many in (201, 202, 1000, 2000):
            for cell in ("0", "7o"):
                with self.assertRaises(NoText):
                    read(" ".join([cell] * many))

    def test_what_is_told_is_read_as_the_very_strip(self):
        for many in range(1, 201):
            strip = many_cells(many)
            text = written(strip)
            self.assertEqual(read(text), strip)
            self.assertEqual(written(read(text)), text)

    def test_other_texts_are_none(self):
        for text in NOT_WRITTEN_SO:
            with self.subTest(text=text[:20].encode("unicode_escape")):
                with self.assertRaises(NoText) as caught:
                    read(text)
                self.assertIs(type(caught.exception), NoText)
                self.assertIsInstance(caught.exception, ValueError)

    def test_each_sign_beside_a_figure(self):
        signs = [chr(at) for at in range(256) if not chr(at).isdecimal()]
        for sign in signs:
            if sign != "o":
                self.assertRaises(NoText, read, "3" + sign)
            self.assertRaises(NoText, read, sign + "3")
            if sign != " ":
                self.assertRaises(NoText, read, "3" + sign + "o")
                self.assertRaises(NoText, read, "3 " + sign)


class PutTogetherTest(unittest.TestCase):
    def test_glued(self):
        self.assertEqual(glued(read("3 0o"), read("12")), read("3 0o 12"))
        self.assertEqual(glued(read("12"), read("3 0o")), read("12 3 0o"))
        self.assertEqual(glued(read("1"), read("2o")), read("1 2o"))
        whole = many_cells(200)
        for cut in (1, 100, 199):
            self.assertEqual(glued(whole[:cut], whole[cut:]), whole)

    def test_glued_with_itself(self):
        strip = read("3 0o")
        self.assertEqual(glued(strip, strip), read("3 0o 3 0o"))
        self.assertEqual(strip, read("3 0o"))

    def test_more_than_a_strip_has_are_glued_without_an_error(self):
        self.assertEqual(glued(many_cells(200), many_cells(1)), many_cells(200) + many_cells(1))

    def test_parted(self):
        strip = read("3 0o 12 5")
        self.assertEqual(parted(strip, 0), (read("3"), read("0o 12 5")))
        self.assertEqual(parted(strip, 1), (read("3 0o"), read("12 5")))
        self.assertEqual(parted(strip, 2), (read("3 0o 12"), read("5")))
        self.assertEqual(parted(read("1 2o"), 0), (read("1"), read("2o")))

    def test_parted_at_each_cell_of_the_longest(self):
        strip = many_cells(200)
        for cell in range(199):
            one, other = parted(strip, cell)
            self.assertEqual(len(one), cell + 1)
            self.assertEqual(glued(one, other), strip)

    def test_the_kinds_of_the_parts(self):
        parts = parted(read("1 2 3"), 1)
        self.assertIs(type(parts), tuple)
        self.assertEqual([type(part) for part in parts], [list, list])

    def test_no_cell_to_cut_behind(self):
        for many in (1, 2, 3, 200):
            strip = many_cells(many)
            far = 10 ** 29
            for cell in (many - 1, many, many + 1, -1, -2, -many, -many - 1, far, -far,
                         10 ** 5000, -10 ** 5000):
                with self.assertRaises(NoCell) as caught:
                    parted(strip, cell)
                self.assertIs(type(caught.exception), NoCell)
                self.assertIsInstance(caught.exception, LookupError)
                self.assertEqual(strip, many_cells(many))

    def test_turned(self):
        self.assertEqual(turned(read("3 0o 12")), read("12 0o 3"))
        self.assertEqual(turned(read("7o")), read("7o"))
        self.assertEqual(turned(read("1 2")), read("2 1"))

    def test_turned_twice(self):
        for many in (1, 2, 3, 199, 200):
            strip = many_cells(many)
            self.assertEqual(turned(turned(strip)), strip)
            self.assertEqual(turned(strip)[0], strip[-1])
            self.assertEqual(len(turned(strip)), many)

    def test_turned_parts_are_the_parts_of_the_turned(self):
        strip = many_cells(9)
        for cell in range(8):
            one, other = parted(strip, cell)
            self.assertEqual(glued(turned(other), turned(one)), turned(strip))


class AskersOwnTest(unittest.TestCase):
    def test_nothing_that_is_handed_in_is_changed(self):
        one = many_cells(5)
        other = many_cells(3)
        written(one)
        glued(one, other)
        parted(one, 2)
        turned(one)
        self.assertEqual(one, many_cells(5))
        self.assertEqual(other, many_cells(3))

    def test_what_is_told_does_not_hang_on_what_was_handed_in(self):
        one = many_cells(5)
        other = many_cells(3)
        whole = glued(one, other)
        parts = parted(one, 2)
        about = turned(one)
        single = turned(other[:1])
        one.clear()
        other.clear()
        self.assertEqual(whole, many_cells(5) + many_cells(3))
        self.assertEqual(parts, (many_cells(5)[:3], many_cells(5)[3:]))
        self.assertEqual(about, many_cells(5)[::-1])
        self.assertEqual(single, many_cells(1))

    def test_what_was_handed_in_does_not_hang_on_what_is_told(self):
        one = many_cells(5)
        other = many_cells(3)
        for told in (glued(one, other), *parted(one, 2), turned(one), glued(one, one)):
            told.append((True, 50))
            told[0] = (True, 51)
        self.assertEqual(one, many_cells(5))
        self.assertEqual(other, many_cells(3))

    def test_no_two_told_lists_are_one(self):
        strip = many_cells(4)
        told = [read("1 2"), read("1 2"), glued(strip, strip), glued(strip, strip),
                *parted(strip, 1), *parted(strip, 1), turned(strip), turned(strip)]
        for at, one in enumerate(told):
            for other in told[:at]:
                self.assertIsNot(one, other)
        told[0].append((True, 9))
        self.assertEqual(read("1 2"), [(False, 1), (False, 2)])

    def test_a_list_that_was_changed_is_looked_at_anew(self):
        strip = read("1 2 3")
        self.assertEqual(written(strip), "1 2 3")
        self.assertEqual(turned(strip), read("3 2 1"))
        self.assertEqual(glued(strip, strip), read("1 2 3 1 2 3"))
        self.assertRaises(NoCell, parted, strip, 2)
        strip[0] = (True, 0)
        strip.append((False, 4))
        self.assertEqual(written(strip), "0o 2 3 4")
        self.assertEqual(turned(strip), read("4 3 2 0o"))
        self.assertEqual(glued(strip, strip), read("0o 2 3 4 0o 2 3 4"))
        self.assertEqual(parted(strip, 2), (read("0o 2 3"), read("4")))

    def test_arguments_by_their_names(self):
        strip = read(text="1 2o")
        self.assertEqual(written(strip=strip), "1 2o")
        self.assertEqual(glued(other=strip, one=read("3")), read("3 1 2o"))
        self.assertEqual(glued(one=strip, other=read("3")), read("1 2o 3"))
        self.assertEqual(parted(cell=0, strip=strip), (read("1"), read("2o")))
        self.assertEqual(parted(strip, cell=0), (read("1"), read("2o")))
        self.assertEqual(turned(strip=strip), read("2o 1"))


if __name__ == "__main__":
    unittest.main()
