"""Section 1: the errors."""

import unittest

from pageshares import errors
from pageshares.amounts import multiplied
from tests.common import ATTRIBUTES, DIGITS_40, no_integers

VALUES = {
    "InvalidFraction": ("one",),
    "InvalidBound": ("kind",),
    "InvalidBook": ("balance", 1),
    "InvalidStanding": (-1,),
    "InvalidRow": (3,),
    "InvalidHold": ("column",),
    "InvalidText": (4, 2),
    "InvalidCall": ("kind",),
    "NoLimit": ((0, 1),),
    "NotPlain": (2,),
    "LimitExceeded": (2000,),
}


class TestErrors(unittest.TestCase):
    def test_the_base_class(self):
        """[1.1] ShareError derives from ArithmeticError itself."""
        self.assertEqual(errors.ShareError.__bases__, (ArithmeticError,))

    def test_all_eleven_are_there_and_no_more(self):
        """[1.2] There are eleven error classes beside ShareError."""
        found = [name for name, value in vars(errors).items() if isinstance(value, type)]
        self.assertEqual(sorted(found), sorted(list(ATTRIBUTES) + ["ShareError"]))
        self.assertEqual(len(ATTRIBUTES), 11)

    def test_each_derives_from_share_error_itself(self):
        """[1.1] No error other than ShareError is a base of another one."""
        for name in ATTRIBUTES:
            with self.subTest(name):
                self.assertEqual(getattr(errors, name).__bases__, (errors.ShareError,))

    def test_each_has_its_attributes_in_sequence(self):
        """[1.1] The attributes are the arguments, in the sequence of the interface."""
        for name, attributes in ATTRIBUTES.items():
            with self.subTest(name):
                by_place = getattr(errors, name)(*VALUES[name])
                by_name = getattr(errors, name)(**dict(zip(attributes, VALUES[name])))
                for error in (by_place, by_name):
                    self.assertEqual(tuple(getattr(error, key) for key in attributes), VALUES[name])
                    self.assertEqual(set(vars(error)), set(attributes))

    def test_each_takes_as_many_arguments_as_attributes(self):
        """[1.1] The arguments are the attributes and nothing else."""
        for name in ATTRIBUTES:
            with self.subTest(name):
                with self.assertRaises(TypeError):
                    getattr(errors, name)(*VALUES[name], 1)
                with self.assertRaises(TypeError):
                    getattr(errors, name)(*VALUES[name][:-1])

    def test_each_can_be_raised_and_shown(self):
        """[1.1] Each is caught as an ArithmeticError and has a message."""
        for name in ATTRIBUTES:
            with self.subTest(name):
                with self.assertRaises(ArithmeticError) as caught:
                    raise getattr(errors, name)(*VALUES[name])
                self.assertNotEqual(str(caught.exception), "")

    def test_long_integers_as_attributes(self):
        """[0.4] [1.1] The attributes are the arguments, however long they are."""
        # An integer of more than 4,000 digits is one that the program returned.
        great = multiplied(10 ** 3999, 10 ** 3999)[0]
        for long in (DIGITS_40, 10 ** 4000 - 1, great, great * great):
            for name, attributes in ATTRIBUTES.items():
                for value in (long, -long, (long, -long), ((0, long), "x"), [long], {long: [-long]}):
                    with self.subTest(name):
                        error = getattr(errors, name)(*[value] * len(attributes))
                        self.assertTrue(all(getattr(error, key) is value for key in attributes))
                        self.assertNotEqual(str(error), "")

    def test_any_values_as_attributes(self):
        """[0.9] [1.1] An argument may be any value."""
        for name, attributes in ATTRIBUTES.items():
            for value in no_integers() + [(), (None, 1), ("kind", (2, [3])), 10 ** 60, 10 ** 61]:
                with self.subTest(name, value=repr(value)[:60]):
                    error = getattr(errors, name)(*[value] * len(attributes))
                    self.assertTrue(all(getattr(error, key) is value for key in attributes))

    def test_messages_tell_the_arguments(self):
        """What is short stands in the message."""
        self.assertIn("balance", str(errors.InvalidBook("balance", 4)))
        self.assertIn("4", str(errors.InvalidBook("balance", 4)))
        self.assertIn("(0, 3)", str(errors.NoLimit((0, 3))))
        self.assertIn("-12", str(errors.InvalidStanding(-12)))


if __name__ == "__main__":
    unittest.main()
