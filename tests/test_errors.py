"""The error classes of the interface."""

import inspect
import unittest

from spanrows import errors

UNDER_SPAN_ERROR = {
    "BadRow": ("number",), "BadCount": ("number",), "BadSpan": (), "BadPieces": ("at",), "TooManyPieces": ("most",),
    "BadCommand": ("at",), "Clash": ("label", "other"), "BadCell": (), "BadContent": (), "Gone": ("cell",),
    "Ring": ("cell",), "Full": ("most",), "BadDeed": ("at",), "BadName": ("name",), "Taken": ("name",),
    "BadText": ("at",),
}
OTHERS = {"NoName": ("name",), "NothingLeft": ()}
ALL = {**UNDER_SPAN_ERROR, **OTHERS}
VALUES = {"number": -7, "at": 3, "most": 60, "label": (1, 2), "other": (0, 3), "cell": (4, 5), "name": "Odd name"}


class Errors(unittest.TestCase):
    def test_there_are_eighteen_and_the_base(self):
        found = {name for name, value in vars(errors).items() if inspect.isclass(value)}
        self.assertEqual(found, set(ALL) | {"SpanError"})
        self.assertEqual(len(ALL), 18)

    def test_bases(self):
        self.assertEqual(errors.SpanError.__bases__, (ValueError,))
        for name in UNDER_SPAN_ERROR:
            self.assertEqual(getattr(errors, name).__bases__, (errors.SpanError,))
        self.assertEqual(errors.NoName.__bases__, (LookupError,))
        self.assertEqual(errors.NothingLeft.__bases__, (IndexError,))
        for name in OTHERS:
            self.assertFalse(issubclass(getattr(errors, name), errors.SpanError))

    def test_word_and_attributes_by_position(self):
        for name, parameters in ALL.items():
            error = getattr(errors, name)(*[VALUES[parameter] for parameter in parameters])
            self.assertEqual(error.word, name)
            self.assertIsInstance(str(error), str)
            for parameter in parameters:
                self.assertEqual(getattr(error, parameter), VALUES[parameter])

    def test_attributes_by_name(self):
        for name, parameters in ALL.items():
            error = getattr(errors, name)(**{parameter: VALUES[parameter] for parameter in parameters})
            self.assertEqual(error.word, name)
            for parameter in parameters:
                self.assertEqual(getattr(error, parameter), VALUES[parameter])

    def test_they_can_be_caught(self):
        for name, parameters in UNDER_SPAN_ERROR.items():
            with self.assertRaises(errors.SpanError):
                raise getattr(errors, name)(*[VALUES[parameter] for parameter in parameters])
        with self.assertRaises(LookupError):
            raise errors.NoName("a")
        with self.assertRaises(IndexError):
            raise errors.NothingLeft()

    def test_each_is_of_no_other_class_of_the_package(self):
        for name, parameters in ALL.items():
            error = getattr(errors, name)(*[VALUES[parameter] for parameter in parameters])
            others = [other for other in ALL if isinstance(error, getattr(errors, other))]
            self.assertEqual(others, [name])
            self.assertEqual(isinstance(error, errors.SpanError), name in UNDER_SPAN_ERROR)
            self.assertEqual(isinstance(error, ValueError), name in UNDER_SPAN_ERROR)
            self.assertEqual(isinstance(error, LookupError), name in OTHERS)
            self.assertEqual(isinstance(error, IndexError), name == "NothingLeft")

    def test_only_the_listed_attributes(self):
        for name, parameters in ALL.items():
            error = getattr(errors, name)(*[VALUES[parameter] for parameter in parameters])
            self.assertEqual(set(vars(error)), {"word", *parameters})

    def test_wrong_number_of_arguments(self):
        for name, parameters in ALL.items():
            with self.assertRaises(TypeError):
                getattr(errors, name)(*[1] * (len(parameters) + 1))


if __name__ == "__main__":
    unittest.main()
