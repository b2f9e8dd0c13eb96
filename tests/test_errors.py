"""Promise [3]: the errors."""

import unittest

from everypart import errors

ARGUMENTS = {
    "InvalidNumber": ("value",), "InvalidGraph": ("part", "place"), "InvalidSubset": ("value",),
    "InvalidColoring": ("value",), "InvalidOrder": ("value",), "InvalidWeights": ("value",),
    "InvalidTree": ("value",), "InvalidIntervals": ("place",), "InvalidText": ("text", "at"),
    "InvalidCommand": ("command", "at"), "UnknownCommand": ("word",), "TooLarge": ("what",),
    "Undefined": ("what",), "NothingToUndo": ("word",),
}


class ErrorsTest(unittest.TestCase):

    def test_all_stand_directly_under_graph_error(self):
        self.assertEqual(errors.GraphError.__bases__, (ValueError,))
        self.assertEqual(len(ARGUMENTS), 14)
        for name in ARGUMENTS:
            self.assertEqual(getattr(errors, name).__bases__, (errors.GraphError,), name)
            self.assertEqual(getattr(errors, name).__module__, "everypart.errors")

    def test_arguments_are_kept_themselves(self):
        for name, attributes in ARGUMENTS.items():
            values = [[attribute] for attribute in attributes]
            error = getattr(errors, name)(*values)
            for attribute, value in zip(attributes, values):
                self.assertIs(getattr(error, attribute), value, name)

    def test_arguments_by_name(self):
        for name, attributes in ARGUMENTS.items():
            values = {attribute: [attribute] for attribute in attributes}
            error = getattr(errors, name)(**values)
            for attribute in attributes:
                self.assertIs(getattr(error, attribute), values[attribute], name)

    def test_each_needs_all_its_arguments(self):
        for name, attributes in ARGUMENTS.items():
            with self.assertRaises(TypeError):
                getattr(errors, name)(*attributes[1:])
            with self.assertRaises(TypeError):
                getattr(errors, name)(*attributes, 0)

    def test_errors_can_be_caught_as_value_errors_and_apart(self):
        for name, attributes in ARGUMENTS.items():
            error = getattr(errors, name)(*attributes)
            self.assertIsInstance(error, ValueError)
            for other in ARGUMENTS:
                self.assertEqual(isinstance(error, getattr(errors, other)), other == name)


if __name__ == "__main__":
    unittest.main()
