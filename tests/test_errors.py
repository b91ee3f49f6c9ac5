"""The errors: names, families, attributes, parameters."""
import inspect
import unittest

from fewcorners import errors
from tests.helpers import any_kinds

VALUE = ["value"]
FAMILIES = {
    "BodyError": (ValueError, {
        "InvalidBody": VALUE, "InvalidForm": VALUE, "InvalidMany": VALUE, "InvalidNumber": VALUE, "InvalidPlace": VALUE,
        "InvalidPlaces": VALUE, "InvalidPoints": VALUE, "InvalidTable": VALUE, "InvalidWheel": VALUE,
        "InvalidWord": VALUE, "DividedByZero": [], "InvalidClaim": VALUE, "InvalidCommand": VALUE,
        "InvalidLines": ["position"], "InvalidNumbers": VALUE, "InvalidPaper": VALUE, "InvalidSort": VALUE,
        "InvalidSum": VALUE, "InvalidText": ["line"], "InvalidValue": VALUE,
    }),
    "MissingError": (LookupError, {"UnknownLabel": VALUE, "UnknownName": VALUE}),
    "StateError": (RuntimeError, {
        "NotFew": [], "NotFace": [], "Simplex": [], "TooFew": [], "CommandFailed": ["position"], "Flattened": [],
        "LabelTaken": ["label"], "NameTaken": ["name"], "NotCorner": ["position"], "NothingToRedo": [],
        "NothingToUndo": [],
    }),
    "LimitError": (ArithmeticError, {"TooMany": ["what", "limit"]}),
}


class ErrorsTest(unittest.TestCase):
    def listed(self):
        for family, (_, members) in FAMILIES.items():
            for name, parameters in members.items():
                yield getattr(errors, family), getattr(errors, name), parameters

    def test_families(self):
        for family, (base, _) in FAMILIES.items():
            self.assertEqual(getattr(errors, family).__bases__, (base,))

    def test_members_are_direct_subclasses_of_their_family_alone(self):
        for family, error, _ in self.listed():
            self.assertEqual(error.__bases__, (family,), error)

    def test_nothing_else_is_there(self):
        names = {name for name, value in vars(errors).items() if inspect.isclass(value)}
        told = set(FAMILIES)
        for _, members in FAMILIES.values():
            told |= set(members)
        self.assertEqual(names, told)
        for name in names:
            self.assertEqual(getattr(errors, name).__module__, "fewcorners.errors")

    def test_parameters_have_the_names_of_the_attributes(self):
        for _, error, parameters in self.listed():
            self.assertEqual(list(inspect.signature(error).parameters), parameters, error)

    def test_made_with_any_values_by_place_and_by_name(self):
        for _, error, parameters in self.listed():
            for value in any_kinds():
                values = [value] + [[at] for at in range(1, len(parameters))]
                values = values[:len(parameters)]
                for made in (error(*values), error(**dict(zip(parameters, values)))):
                    self.assertEqual(list(vars(made)), parameters)
                    for name, wanted in zip(parameters, values):
                        self.assertIs(getattr(made, name), wanted)

    def test_too_much_and_too_little_is_passed(self):
        for _, error, parameters in self.listed():
            with self.assertRaises(TypeError):
                error(*range(len(parameters) + 1))
            if parameters:
                with self.assertRaises(TypeError):
                    error()

    def test_caught_by_family(self):
        for family, error, parameters in self.listed():
            with self.assertRaises(family):
                raise error(*range(len(parameters)))
