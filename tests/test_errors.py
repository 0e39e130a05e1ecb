"""Point 17: the refusals, their classes and their values."""

import inspect
import unittest

from mightever import errors

VALUES = {
    "NoWord": "found",
    "NoFolk": "name",
    "NoRole": "name",
    "Doubled": "name",
    "Ring": "name",
    "TooMany": "many",
    "NoState": "found",
    "NoDeed": "found",
    "Lacks": "lacks",
    "NoRule": "found",
    "NoWish": "found",
    "NoBook": "line",
    "NoNumber": "number",
    "NoWant": "number",
    "Unlike": None,
    "NoLine": "line",
}


class TestRefusals(unittest.TestCase):
    def test_sixteen_refusals_and_their_base_are_all_there_is(self):
        classes = inspect.getmembers(errors, inspect.isclass)
        self.assertEqual(sorted(name for name, _ in classes), sorted(list(VALUES) + ["OfficeError"]))

    def test_office_error_stands_under_value_error(self):
        self.assertEqual(errors.OfficeError.__bases__, (ValueError,))

    def test_each_stands_straight_under_office_error(self):
        for name in VALUES:
            self.assertEqual(getattr(errors, name).__bases__, (errors.OfficeError,), name)

    def test_none_stands_under_another(self):
        for one in VALUES:
            for other in VALUES:
                if one != other:
                    self.assertFalse(issubclass(getattr(errors, one), getattr(errors, other)), (one, other))

    def test_each_has_the_very_value_it_was_made_of(self):
        things = [0, -1, 10 ** 50, True, None, "", "ann", [], [(0, "ann", "held")], {}, {"a": [1]}, (), (1, "x"), object()]
        for name, value in VALUES.items():
            if value is None:
                continue
            for thing in things:
                self.assertIs(getattr(getattr(errors, name)(thing), value), thing, name)

    def test_the_value_may_be_told_by_its_name(self):
        for name, value in VALUES.items():
            if value is not None:
                self.assertEqual(getattr(getattr(errors, name)(**{value: "x"}), value), "x")

    def test_unlike_is_made_of_nothing(self):
        self.assertEqual(vars(errors.Unlike()), {})

    def test_each_is_raised_and_taken_as_an_office_error_and_a_value_error(self):
        for name, value in VALUES.items():
            made = getattr(errors, name)() if value is None else getattr(errors, name)(7)
            for kind in (errors.OfficeError, ValueError):
                with self.assertRaises(kind) as caught:
                    raise made
                self.assertIs(caught.exception, made)


if __name__ == "__main__":
    unittest.main()
