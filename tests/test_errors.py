import unittest

from twoeach import errors
from twoeach.kinds import Kind

FIRST = {"LineError": ValueError, "MissingError": LookupError, "StateError": RuntimeError, "LimitError": ArithmeticError}

BELOW = {
    "LineError": {
        "InvalidEntries": ["position"], "InvalidNames": ["position"], "InvalidKinds": ["value"],
        "InvalidRenaming": ["value"], "InvalidSize": ["value"], "InvalidLines": ["position"],
        "InvalidSet": ["position"], "InvalidChoice": ["value"], "InvalidMarks": ["position"],
        "InvalidHeight": ["value"], "InvalidPeriod": ["value"], "InvalidPartners": ["value"],
        "InvalidColumn": ["value"], "InvalidState": ["value"], "InvalidLength": ["value"], "InvalidText": ["line"],
        "InvalidClaim": ["value"], "InvalidWay": ["value"], "InvalidCommand": ["value"],
    },
    "MissingError": {
        "UnknownName": ["value"], "UnknownKind": ["value"], "UnknownCell": ["value"], "UnknownLine": ["value"],
    },
    "StateError": {
        "KindTaken": ["value"], "SameKinds": ["one", "other"], "NotFlat": ["value"], "OtherPiece": ["one", "other"],
        "Marked": ["value"], "WrongTurn": ["value"], "NoAnswer": [], "NothingToUndo": [],
        "CommandFailed": ["position"],
    },
    "LimitError": {"TooMany": ["what", "limit"]},
}

LISTED = [(base, name, params) for base, rows in BELOW.items() for name, params in rows.items()]

VALUES = [None, 0, -1, True, 10 ** 5000, "", "p", b"p", (), (0, 0, "p"), [], [1, [2]], {}, {"p": [1]}, object(), Kind,
          Kind((0, 0, "p"), (1, 0, "p")), ValueError("x")]


class ErrorsTest(unittest.TestCase):

    def test_the_first_classes(self):
        for name, base in FIRST.items():
            self.assertEqual(getattr(errors, name).__bases__, (base,), name)
            self.assertIsInstance(getattr(errors, name)(), base)

    def test_each_class_has_just_its_base_class(self):
        for base, name, _ in LISTED:
            self.assertEqual(getattr(errors, name).__bases__, (getattr(errors, base),), name)

    def test_each_class_is_defined_in_the_file(self):
        for name in list(FIRST) + [name for _, name, _ in LISTED]:
            self.assertEqual(getattr(errors, name).__module__, "twoeach.errors")
            self.assertEqual(getattr(errors, name).__name__, name)

    def test_nothing_else_is_there(self):
        there = [name for name in vars(errors) if isinstance(getattr(errors, name), type)]
        self.assertEqual(sorted(there), sorted(list(FIRST) + [name for _, name, _ in LISTED]))

    def test_parameters_by_position(self):
        for _, name, params in LISTED:
            for value in VALUES:
                passed = [value, "second"][:len(params)]
                error = getattr(errors, name)(*passed)
                for attribute, worth in zip(params, passed):
                    self.assertIs(getattr(error, attribute), worth, name)

    def test_parameters_by_name(self):
        for _, name, params in LISTED:
            for value in VALUES:
                passed = dict(zip(reversed(params), [value, "second"]))
                error = getattr(errors, name)(**passed)
                for attribute in params:
                    self.assertIs(getattr(error, attribute), passed[attribute], name)

    def test_no_other_attributes(self):
        for _, name, params in LISTED:
            error = getattr(errors, name)(*[1, 2][:len(params)])
            self.assertEqual(sorted(vars(error)), sorted(params), name)

    def test_other_numbers_of_parameters(self):
        for _, name, params in LISTED:
            with self.assertRaises(TypeError):
                getattr(errors, name)(*range(len(params) + 1))
            if params:
                with self.assertRaises(TypeError):
                    getattr(errors, name)(*range(len(params) - 1))
            with self.assertRaises(TypeError):
                getattr(errors, name)(**{param: 1 for param in params}, beside=1)

    def test_raised_and_caught_by_each_class_above(self):
        for base, name, params in LISTED:
            for above in (name, base, FIRST[base]):
                caught = getattr(errors, above) if isinstance(above, str) else above
                with self.assertRaises(caught) as held:
                    raise getattr(errors, name)(*[5, 6][:len(params)])
                self.assertEqual([getattr(held.exception, param) for param in params], [5, 6][:len(params)])


if __name__ == "__main__":
    unittest.main()
