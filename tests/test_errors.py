"""The section "Errors" of the interface."""

import unittest

from sureparts import errors
from tests.helpers import Case

LISTED = {
    ("WebError", ValueError): [
        "InvalidTable(value)", "InvalidRest(value)", "InvalidWeb(value)", "InvalidPlace(value)",
        "InvalidRow(value)", "InvalidWeight(value)", "InvalidFilling(value)", "InvalidMap(value)",
        "InvalidPart(value)", "InvalidJoining(value)", "InvalidMany(value)", "InvalidArrow(value)",
        "InvalidArrows(value)", "InvalidClaim(value)", "InvalidCommand(value)", "InvalidDeeds(position)",
        "InvalidEntry(value)", "InvalidLesser(value)", "InvalidNumbers(value)", "InvalidPaper(value)",
        "InvalidPlaces(value)", "InvalidRows(value)", "InvalidSets(value)", "InvalidSize(value)",
        "InvalidSort(value)", "InvalidTables(value)", "InvalidThing(value)", "InvalidThree(value)",
        "InvalidWay(value)", "UnreadText(position)"],
    ("MissingError", LookupError): ["UnknownLabel(value)", "UnknownName(value)"],
    ("StateError", RuntimeError): [
        "UnlikeWebs()", "CommandFailed(position)", "IsNought()", "IsUsed(name)", "LabelTaken(label)",
        "NameTaken(name)", "NotAbove()", "NotBelow()", "NotEnd()", "NotLevel()", "NotStill()",
        "NothingToRedo()", "NothingToUndo()", "UnlikeRows()", "UnlikeSizes()"],
    ("LimitError", ArithmeticError): ["TooMany(what, limit)"],
}


def listed():
    """(class, its direct base, names of its parameters) of each listed error but the four bases."""
    for (base, _), told in LISTED.items():
        for line in told:
            name, inner = line[:-1].split("(")
            yield getattr(errors, name), getattr(errors, base), inner.split(", ") if inner else []


class Errors(Case):
    def test_bases_of_bases(self):
        for name, above in LISTED:
            with self.subTest(name=name):
                self.assertEqual(getattr(errors, name).__bases__, (above,))

    def test_each_class_has_one_direct_base(self):
        self.assertEqual(len(list(listed())), 48)
        for kind, base, _ in listed():
            with self.subTest(kind=kind.__name__):
                self.assertEqual(kind.__bases__, (base,))
                self.assertEqual(kind.__module__, "sureparts.errors")

    def test_no_other_classes(self):
        own = {name for name, value in vars(errors).items() if isinstance(value, type)}
        wanted = {kind.__name__ for kind, _, _ in listed()} | {name for name, _ in LISTED}
        self.assertEqual(own, wanted)

    def test_attributes_by_position_and_by_name(self):
        values = [None, True, "text", [1, [2]], (0,), object(), 10 ** 30]
        for kind, _, names in listed():
            for value in values:
                given = [value] + ["further"] * (len(names) - 1) if names else []
                for error in (kind(*given), kind(**dict(zip(names, given)))):
                    with self.subTest(kind=kind.__name__):
                        self.assertEqual(set(vars(error)), set(names))
                        for name, wanted in zip(names, given):
                            self.assertIs(getattr(error, name), wanted)

    def test_no_other_parameters(self):
        for kind, _, names in listed():
            with self.subTest(kind=kind.__name__):
                self.assertRaises(TypeError, kind, *([1] * (len(names) + 1)))
                self.assertRaises(TypeError, kind, other=1)
                if names:
                    self.assertRaises(TypeError, kind)

    def test_raised_and_caught_by_each_base(self):
        for kind, base, names in listed():
            for caught in (kind, base, base.__bases__[0]):
                with self.assertRaises(caught):
                    raise kind(*names)


if __name__ == "__main__":
    unittest.main()
