"""The errors: their bases, their attributes and their codes."""

import inspect
import unittest

from unopened import errors

UNOPENED = {
    "InvalidName": ["value"],
    "InvalidNumber": ["value"],
    "InvalidSeries": [],
    "NoInverse": [],
    "TooEarly": ["order"],
    "InvalidPart": ["at"],
    "InvalidOuts": ["at"],
    "InvalidUse": ["at"],
    "InvalidText": ["word"],
    "InvalidForm": [],
    "InvalidSheet": ["at"],
    "InvalidTable": ["key"],
    "InvalidFact": ["at"],
    "InvalidDeed": ["at"],
    "InvalidCommand": ["at"],
    "InvalidPage": ["line"],
    "InvalidLimit": ["value"],
    "DuplicateName": ["name"],
    "UnlikeKinds": ["name"],
    "UnlikeOuts": [],
    "Ring": ["place"],
    "Circular": ["piece"],
    "InUse": ["piece", "user"],
    "Full": ["limit"],
    "TooMany": ["subject", "most"],
}
MISSING = {"UnknownName": ["name"], "UnknownPiece": ["piece"]}
NOTHING = {"NothingLeft": []}
ALL = {**UNOPENED, **MISSING, **NOTHING}
VALUES = [0, -3, True, None, "text", (1, "b"), [1], {"a": 2}, 10 ** 2999]


class TestErrors(unittest.TestCase):
    def test_direct_bases(self):
        self.assertEqual(errors.UnopenedError.__bases__, (ValueError,))
        self.assertEqual(errors.Missing.__bases__, (LookupError,))
        for name in UNOPENED:
            self.assertEqual(getattr(errors, name).__bases__, (errors.UnopenedError,), name)
        for name in MISSING:
            self.assertEqual(getattr(errors, name).__bases__, (errors.Missing,), name)
        self.assertEqual(errors.NothingLeft.__bases__, (IndexError,))

    def test_no_other_class_is_a_subclass_of_another_one(self):
        for name in ALL:
            for other in ALL:
                related = issubclass(getattr(errors, name), getattr(errors, other))
                self.assertEqual(related, name == other, (name, other))
        for name in [*MISSING, *NOTHING]:
            self.assertFalse(issubclass(getattr(errors, name), (errors.UnopenedError, ValueError)), name)
        for name in [*UNOPENED, *NOTHING]:
            self.assertFalse(issubclass(getattr(errors, name), errors.Missing), name)

    def test_the_module_has_these_classes_alone(self):
        found = [name for name, _ in inspect.getmembers(errors, inspect.isclass)]
        self.assertEqual(found, sorted([*ALL, "UnopenedError", "Missing"]))

    def test_values_by_position(self):
        for name, parameters in ALL.items():
            for value in VALUES:
                given = [value, "second"][:len(parameters)]
                error = getattr(errors, name)(*given)
                self.assertEqual([getattr(error, each) for each in parameters], given, name)
                self.assertEqual(error.code, name)

    def test_values_by_name(self):
        for name, parameters in ALL.items():
            for value in VALUES:
                given = dict(zip(parameters, ["first", value][-len(parameters):]))
                error = getattr(errors, name)(**given)
                self.assertEqual({each: getattr(error, each) for each in parameters}, given, name)
                self.assertEqual(error.code, name)

    def test_parameters_have_these_names_and_no_defaults(self):
        for name, parameters in ALL.items():
            found = inspect.signature(getattr(errors, name)).parameters.values()
            self.assertEqual([each.name for each in found], parameters, name)
            self.assertTrue(all(each.default is each.empty for each in found), name)

    def test_other_numbers_of_values_are_refused(self):
        for name, parameters in ALL.items():
            with self.assertRaises(TypeError):
                getattr(errors, name)(*[1] * (len(parameters) + 1))
            if parameters:
                with self.assertRaises(TypeError):
                    getattr(errors, name)()

    def test_the_base_classes_have_no_code(self):
        self.assertFalse(hasattr(errors.UnopenedError, "code"))
        self.assertFalse(hasattr(errors.UnopenedError(), "code"))
        self.assertFalse(hasattr(errors.Missing, "code"))
        self.assertFalse(hasattr(errors.Missing(), "code"))

    def test_errors_are_raised_and_caught_by_their_bases(self):
        with self.assertRaises(ValueError):
            raise errors.TooMany("parts", 16)
        with self.assertRaises(LookupError):
            raise errors.UnknownName("a")
        with self.assertRaises(IndexError):
            raise errors.NothingLeft()


if __name__ == "__main__":
    unittest.main()
