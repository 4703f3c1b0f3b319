"""Points 2 and 3: the errors."""

import unittest

from ledelsewhere import errors

ARGUMENTS = {
    "InvalidSite": ("part", "path"),
    "InvalidRule": ("part",),
    "InvalidFlags": ("flags",),
    "InvalidStanding": (),
    "InvalidDeed": ("deed",),
    "InvalidPath": ("path",),
    "InvalidSide": ("side",),
    "InvalidPosition": ("position",),
    "InvalidText": ("line",),
    "UnknownPage": ("page",),
    "UnknownBit": ("bit",),
    "TooManyLeads": ("page",),
    "NothingToUndo": (),
    "NothingToRedo": (),
    "InvalidBound": ("value",),
    "LimitExceeded": ("limit",),
    "NoStanding": (),
    "NoFault": ("kind", "page"),
    "InvalidKind": ("kind",),
    "NotComparable": ("part",),
    "InvalidChange": ("index",),
    "InvalidRules": (),
}


class TestErrors(unittest.TestCase):
    def test_there_are_22_of_them_and_the_base(self):
        self.assertEqual(len(ARGUMENTS), 22)
        defined = {name for name, value in vars(errors).items() if isinstance(value, type)}
        self.assertEqual(defined, set(ARGUMENTS) | {"LedError"})

    def test_each_stands_directly_under_the_base(self):
        self.assertEqual(errors.LedError.__bases__, (ValueError,))
        for name in ARGUMENTS:
            with self.subTest(name):
                self.assertEqual(getattr(errors, name).__bases__, (errors.LedError,))

    def test_attributes_hold_the_values_that_were_given(self):
        values = ({"a": [1]}, ["b", None])
        for name, arguments in ARGUMENTS.items():
            with self.subTest(name):
                given = values[: len(arguments)]
                error = getattr(errors, name)(*given)
                self.assertEqual(list(vars(error)), list(arguments))
                for argument, value in zip(arguments, given):
                    self.assertIs(getattr(error, argument), value)

    def test_arguments_may_be_named(self):
        for name, arguments in ARGUMENTS.items():
            with self.subTest(name):
                given = {argument: [argument] for argument in arguments}
                self.assertEqual(vars(getattr(errors, name)(**given)), given)

    def test_all_arguments_are_needed_and_no_more(self):
        for name, arguments in ARGUMENTS.items():
            with self.subTest(name):
                if arguments:
                    with self.assertRaises(TypeError):
                        getattr(errors, name)(*arguments[1:])
                    with self.assertRaises(TypeError):
                        getattr(errors, name)(*arguments, 1)

    def test_a_caller_catches_them_as_errors_of_values(self):
        with self.assertRaises(ValueError):
            raise errors.InvalidSite("bits", ())
        with self.assertRaises(errors.LedError):
            raise errors.NothingToUndo()
