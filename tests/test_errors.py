"""fewindexes/errors.py: classes, what they stand under, their fields."""

import inspect
import unittest

from fewindexes import errors
from cases import ODD_THINGS, Oddity

UNDER_FEW_ERROR = {
    "BadText": ("line", "word"),
    "BadDemand": ("part",), "BadPaper": ("part",),
    "BadStock": ("number",), "BadTells": ("number",), "BadNeeds": ("number",), "BadIndexes": ("number",),
    "BadTerm": ("path",),
}
for with_given in ("BadNumber BadNumbers BadLookup BadIndex BadTable BadWay BadValues BadPrices BadWorths BadPart "
                   "BadRow BadKey BadName BadLot BadUpkeeps BadChange Broken").split():
    UNDER_FEW_ERROR[with_given] = ("given",)
BESIDE = {
    "TooMany": (OverflowError, ("most",)),
    "Missing": (KeyError, ("given",)),
    "NothingLeft": (RuntimeError, ("many",)),
}
ALL = {**{name: (errors.FewError, fields) for name, fields in UNDER_FEW_ERROR.items()}, **BESIDE}


class Errors(unittest.TestCase):
    def test_what_each_stands_under(self):
        self.assertEqual(errors.FewError.__bases__, (ValueError,))
        for name, (base, _) in ALL.items():
            self.assertEqual(getattr(errors, name).__bases__, (base,), name)

    def test_there_are_these_and_no_others(self):
        told = {name for name, _ in inspect.getmembers(errors, inspect.isclass)}
        self.assertEqual(told, {"FewError", *ALL})

    def test_those_beside_are_no_few_errors(self):
        for name in BESIDE:
            self.assertFalse(issubclass(getattr(errors, name), errors.FewError), name)

    def test_fields_are_as_given_of_any_things(self):
        for name, (_, fields) in ALL.items():
            made = getattr(errors, name)
            for thing in (*ODD_THINGS, Oddity(), 10 ** 59, [[1], {2: 3}]):
                given = [thing] + [[thing]] * (len(fields) - 1)
                for error in (made(*given), made(**dict(zip(fields, given)))):
                    self.assertEqual(list(error.__dict__), list(fields))
                    for field, part in zip(fields, given):
                        self.assertIs(getattr(error, field), part)

    def test_number_of_things(self):
        for name, (_, fields) in ALL.items():
            with self.assertRaises(TypeError):
                getattr(errors, name)(*[1] * (len(fields) + 1))
            with self.assertRaises(TypeError):
                getattr(errors, name)()

    def test_they_can_be_raised_and_caught(self):
        for name, (base, fields) in ALL.items():
            with self.assertRaises(base):
                raise getattr(errors, name)(*fields)
        with self.assertRaises(ValueError):
            raise errors.FewError("refused")


if __name__ == "__main__":
    unittest.main()
