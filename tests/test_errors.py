import unittest

from fliponce import errors
from values import odd_values

BASES = {"ShapeError": ValueError, "QuestionError": LookupError, "SizeError": ArithmeticError}

TOLD = {
    "ShapeError": {
        "InvalidSwitches": "index", "InvalidRules": "index", "InvalidText": "value", "InvalidSetting": "value",
        "InvalidRule": "value", "InvalidLiteral": "value", "InvalidLiterals": "index", "InvalidSeen": "index",
        "InvalidDeeds": "index", "InvalidPromise": "value", "InvalidIndex": "value", "InvalidLine": "value",
        "NotAPanel": "value",
    },
    "QuestionError": {
        "UnknownSwitch": "value", "NoSetting": None, "NotAkin": "switch", "Refused": "rule", "Busy": None,
        "NothingToUndo": None, "Broken": "index",
    },
    "SizeError": {"TooMany": "limit"},
}


def told_errors():
    """Each class told, with its base and the name of its attribute, None for no attribute."""
    return [
        (getattr(errors, name), getattr(errors, base), attribute)
        for base, names in TOLD.items() for name, attribute in names.items()
    ]


class ErrorsTest(unittest.TestCase):
    def test_three_bases(self):
        for name, base in BASES.items():
            with self.subTest(name=name):
                self.assertEqual(getattr(errors, name).__bases__, (base,))

    def test_one_base_each(self):
        for error, base, _ in told_errors():
            with self.subTest(error=error.__name__):
                self.assertEqual(error.__bases__, (base,))
                self.assertEqual(error.__module__, "fliponce.errors")

    def test_attribute_by_place_and_by_name(self):
        for error, _, attribute in told_errors():
            if attribute is None:
                continue
            for value in odd_values() + ["", "text", 7]:
                with self.subTest(error=error.__name__):
                    self.assertIs(getattr(error(value), attribute), value)
                    self.assertIs(getattr(error(**{attribute: value}), attribute), value)

    def test_no_attribute(self):
        for error, base, attribute in told_errors():
            if attribute is None:
                with self.subTest(error=error.__name__):
                    self.assertIsInstance(error(), base)

    def test_shown_whatever_the_value(self):
        for error, _, attribute in told_errors():
            for value in odd_values():
                with self.subTest(error=error.__name__):
                    raised = error() if attribute is None else error(value)
                    self.assertIsInstance(str(raised), str)
                    self.assertIsInstance(repr(raised), str)

    def test_raised_and_caught_by_its_base(self):
        for error, base, attribute in told_errors():
            with self.subTest(error=error.__name__):
                with self.assertRaises(base) as caught:
                    raise error() if attribute is None else error(3)
                self.assertIs(type(caught.exception), error)


if __name__ == "__main__":
    unittest.main()
