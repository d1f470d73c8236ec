"""The classes of pleatpunch.errors: bases, how they are made, fields."""

import unittest

from pleatpunch import errors

BY_TEXT = {
    "NoText": ValueError,
    "NoFolds": ValueError,
    "NoWish": ValueError,
    "NoPlace": LookupError,
    "NoCell": LookupError,
    "Whole": ValueError,
    "NoMark": KeyError,
    "NoList": ValueError,
}
BY_FIELD = {"Torn": "cell", "NoPlan": "cell", "TooMany": "many"}


class ErrorsTest(unittest.TestCase):
    def test_each_stands_just_under_its_base(self):
        for name, base in BY_TEXT.items():
            self.assertEqual(getattr(errors, name).__bases__, (base,), name)
        for name in BY_FIELD:
            self.assertEqual(getattr(errors, name).__bases__, (ValueError,), name)

    def test_none_stands_under_another_one(self):
        classes = [getattr(errors, name) for name in [*BY_TEXT, *BY_FIELD]]
        self.assertEqual(len(classes), 11)
        for one in classes:
            self.assertEqual([other for other in classes if issubclass(one, other)], [one])

    def test_there_are_no_others(self):
        found = [name for name, what in vars(errors).items() if isinstance(what, type)]
        self.assertEqual(sorted(found), sorted([*BY_TEXT, *BY_FIELD]))

    def test_made_with_one_text(self):
        for name in BY_TEXT:
            error = getattr(errors, name)("why it is refused")
            self.assertIn("why it is refused", str(error), name)

    def test_made_with_a_number_that_is_the_field(self):
        for name, field in BY_FIELD.items():
            for number in (0, 7, 10 ** 29, 2 ** 199):
                by_place = getattr(errors, name)(number)
                by_name = getattr(errors, name)(**{field: number})
                self.assertEqual(getattr(by_place, field), number)
                self.assertEqual(getattr(by_name, field), number)
                self.assertIs(type(getattr(by_place, field)), int)

    def test_objects_do_not_share_their_fields(self):
        for name, field in BY_FIELD.items():
            one = getattr(errors, name)(1)
            other = getattr(errors, name)(2)
            self.assertEqual((getattr(one, field), getattr(other, field)), (1, 2))

    def test_raised_and_caught_by_their_bases(self):
        for name, base in BY_TEXT.items():
            with self.assertRaises(base):
                raise getattr(errors, name)("no")
        for name, field in BY_FIELD.items():
            with self.assertRaises(ValueError) as caught:
                raise getattr(errors, name)(5)
            self.assertEqual(getattr(caught.exception, field), 5)


if __name__ == "__main__":
    unittest.main()
