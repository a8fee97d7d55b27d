"""[5]: the errors."""

import unittest

from hadnot import errors

ARGUMENTS = {
    "InvalidName": ("name",),
    "InvalidText": ("row",),
    "InvalidDeed": ("name",),
    "NoRatio": (),
    "OtherChoices": (),
    "Taken": ("name",),
    "Unready": ("where", "name"),
    "Opened": ("name",),
    "NotOpen": ("name",),
    "TooWide": ("deed", "row"),
    "NotNumber": (),
    "Clash": ("name",),
    "InvalidCommand": (),
    "UnknownName": ("name",),
}
VALUES = (None, True, False, 0, 1, -1, 10 ** 9000, "", "name", "A b", (), (1, ("x", (None,))))


class ErrorsTest(unittest.TestCase):
    def classes(self):
        return {name: getattr(errors, name) for name in ARGUMENTS}

    def test_bases(self):
        self.assertEqual(errors.HadnotError.__bases__, (ValueError,))
        for name, error in self.classes().items():
            base = KeyError if name == "UnknownName" else errors.HadnotError
            self.assertEqual(error.__bases__, (base,), name)

    def test_no_error_is_another_one(self):
        for name, error in self.classes().items():
            for other_name, other in self.classes().items():
                self.assertEqual(issubclass(error, other), name == other_name)
            self.assertEqual(issubclass(error, KeyError), name == "UnknownName")
            self.assertEqual(issubclass(error, ValueError), name != "UnknownName")
            self.assertEqual(issubclass(error, errors.HadnotError), name != "UnknownName")

    def test_all_are_there(self):
        found = {name for name, thing in vars(errors).items() if isinstance(thing, type)}
        self.assertEqual(found, set(ARGUMENTS) | {"HadnotError"})

    def test_attributes(self):
        for name, error in self.classes().items():
            names = ARGUMENTS[name]
            for at, value in enumerate(VALUES):
                passed = [VALUES[(at + place) % len(VALUES)] for place in range(len(names))]
                for made in (error(*passed), error(**dict(zip(names, passed)))):
                    self.assertEqual([getattr(made, word) for word in names], passed)
                    for word, told in zip(names, passed):
                        self.assertIs(type(getattr(made, word)), type(told))
                    self.assertIsInstance(str(made), str)

    def test_raised(self):
        for name, error in self.classes().items():
            with self.assertRaises(error):
                raise error(*ARGUMENTS[name])

    def test_wrong_arguments(self):
        for name, error in self.classes().items():
            if ARGUMENTS[name]:
                self.assertRaises(TypeError, error)
                self.assertRaises(TypeError, error, *ARGUMENTS[name], "more")
