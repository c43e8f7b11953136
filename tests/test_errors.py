import inspect
import unittest

from tests.helper import ODD_VALUES
from widthmix import errors

WITHOUT_ARGUMENT = (
    "NoSetting", "LastOutlet", "LastInlet", "NoMatch", "NoWants", "NoPrices", "NotSquare", "NoWidths", "BadTable",
    "NothingToUndo", "NoOperations",
)
WITH_ARGUMENT = {
    "NoLevel": "level",
    "NoOutlet": "outlet",
    "NoInlet": "inlet",
    "TooMany": "limit",
    "NoSolution": "evidence",
    "NoIndex": "index",
    "NoExponent": "exponent",
    "NoMoment": "at",
    "Failed": "index",
    "Blocked": "evidence",
    "BadText": "line",
    "NoNote": "note",
}
NAMES = (*WITHOUT_ARGUMENT, *WITH_ARGUMENT)


def made(name):
    error_class = getattr(errors, name)
    return error_class(7) if name in WITH_ARGUMENT else error_class()


class ErrorsTest(unittest.TestCase):
    """Point 81."""

    def test_names(self):
        classes = [name for name, value in vars(errors).items() if inspect.isclass(value)]
        self.assertEqual(len(NAMES), 23)
        self.assertEqual(sorted(classes), sorted((*NAMES, "WidthError")))

    def test_bases(self):
        self.assertEqual(errors.WidthError.__bases__, (ValueError,))
        for name in NAMES:
            self.assertEqual(getattr(errors, name).__bases__, (errors.WidthError,), name)

    def test_instances_of_one_class_only(self):
        for name in NAMES:
            error = made(name)
            self.assertIsInstance(error, ValueError)
            self.assertIsInstance(error, errors.WidthError)
            for other in NAMES:
                self.assertEqual(isinstance(error, getattr(errors, other)), name == other, (name, other))

    def test_caught_by_their_bases(self):
        for name in NAMES:
            for caught in (getattr(errors, name), errors.WidthError, ValueError):
                with self.assertRaises(caught):
                    raise made(name)

    def test_no_argument(self):
        for name in WITHOUT_ARGUMENT:
            error = getattr(errors, name)()
            self.assertEqual((error.args, vars(error)), ((), {}), name)

    def test_argument_is_an_attribute_unchanged(self):
        for name, attribute in WITH_ARGUMENT.items():
            for value in (0, 5, (0, (None, 1)), *ODD_VALUES):
                error = getattr(errors, name)(value)
                self.assertIs(getattr(error, attribute), value, name)
                self.assertEqual(list(vars(error)), [attribute])

    def test_message_is_the_name_of_the_class(self):
        # The log of a session and the answers of a console are made of these messages.
        for name in NAMES:
            self.assertEqual(str(made(name)), name)

    def test_argument_is_needed(self):
        for name in WITH_ARGUMENT:
            with self.assertRaises(TypeError):
                getattr(errors, name)()

    def test_argument_by_name(self):
        for name, attribute in WITH_ARGUMENT.items():
            self.assertEqual(list(inspect.signature(getattr(errors, name)).parameters), [attribute])


if __name__ == "__main__":
    unittest.main()
