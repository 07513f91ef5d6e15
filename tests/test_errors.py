import inspect
import unittest

from neverboxes import errors

UNDER_BOX_ERROR = {
    "InvalidSigns": ["value"], "InvalidInputs": ["value"], "InvalidName": ["value"], "InvalidCase": ["at"],
    "InvalidRow": ["at"], "InvalidValue": ["value"], "InvalidNumber": ["value"], "InvalidPlaces": [],
    "InvalidOrder": [], "InvalidTable": [], "InvalidTree": [], "InvalidBox": ["at"],
    "InvalidText": ["line", "why"], "InvalidLine": ["at"], "WrongLine": ["name", "at"],
    "InvalidPrograms": ["at"], "InvalidProgram": [], "InvalidFunction": ["at"], "InvalidColumn": [],
    "InvalidPairs": [], "InvalidLot": ["value"], "InvalidItem": ["at"], "InvalidPrices": [],
    "InvalidDeed": ["at"], "DuplicateName": ["name"], "Conflict": ["first", "second"],
    "TakenBack": ["one", "other"], "Mismatch": [], "TooMany": ["what", "many"],
    "Clash": ["lot", "one", "other"], "Broken": ["lot", "one", "other"], "Barred": ["row", "value"],
    "NoChoice": ["many"], "NotMade": ["listed", "lot", "one", "other"], "NotAll": [], "Stuck": ["row"],
    "Ended": [], "AlreadySeen": ["row"], "Parted": ["one", "other"], "InUse": ["name", "by"],
    "Unfit": ["name"], "InDraft": [], "NoDraft": [],
}
UNDER_MISSING = {"UnknownName": ["name"], "UnknownLot": ["lot"], "NotSeen": ["row"]}
ALL = {**UNDER_BOX_ERROR, **UNDER_MISSING, "NothingLeft": []}


class ErrorsTest(unittest.TestCase):
    def test_bases(self):
        self.assertEqual(errors.BoxError.__bases__, (ValueError,))
        self.assertEqual(errors.Missing.__bases__, (LookupError,))
        self.assertEqual(errors.NothingLeft.__bases__, (IndexError,))
        for name in UNDER_BOX_ERROR:
            self.assertEqual(getattr(errors, name).__bases__, (errors.BoxError,), name)
        for name in UNDER_MISSING:
            self.assertEqual(getattr(errors, name).__bases__, (errors.Missing,), name)

    def test_there_are_no_other_errors(self):
        found = [name for name, value in vars(errors).items() if inspect.isclass(value)]
        self.assertEqual(sorted(found), sorted([*ALL, "BoxError", "Missing"]))

    def test_parameters_and_attributes_by_position(self):
        for name, parameters in ALL.items():
            told = [object(), [1], True, None][:len(parameters)]
            error = getattr(errors, name)(*told)
            for parameter, value in zip(parameters, told):
                self.assertIs(getattr(error, parameter), value, name)
            self.assertEqual(sorted(vars(error)), sorted([*parameters, "code"]), name)

    def test_parameters_by_name_in_any_order(self):
        for name, parameters in ALL.items():
            told = {parameter: [parameter] for parameter in reversed(parameters)}
            error = getattr(errors, name)(**told)
            for parameter in parameters:
                self.assertIs(getattr(error, parameter), told[parameter], name)

    def test_code_is_the_name_of_the_class(self):
        for name, parameters in ALL.items():
            self.assertEqual(getattr(errors, name)(*parameters).code, name)

    def test_other_numbers_of_arguments_are_refused(self):
        for name, parameters in ALL.items():
            with self.assertRaises(TypeError):
                getattr(errors, name)(*parameters, 0)
            if parameters:
                with self.assertRaises(TypeError):
                    getattr(errors, name)()

    def test_common_classes_are_caught(self):
        with self.assertRaises(ValueError):
            raise errors.InvalidText(0, "form")
        with self.assertRaises(LookupError):
            raise errors.UnknownName("or")
        with self.assertRaises(IndexError):
            raise errors.NothingLeft()
        self.assertIsInstance(errors.BoxError(), ValueError)
        self.assertIsInstance(errors.Missing(), LookupError)
