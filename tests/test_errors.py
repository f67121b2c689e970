"""[4]: the errors."""

import unittest

from mostcrowds import errors
from mostcrowds.groups import Group

WITH_ONE = {
    "InvalidName": "name",
    "InvalidGroup": "word",
    "InvalidTally": "word",
    "InvalidClaim": "word",
    "InvalidCrowd": "at",
    "InvalidRow": "word",
    "InvalidText": "at",
    "Refused": "at",
    "NoRow": "at",
    "NoMember": "kind",
}
WITH_NONE = ["InvalidCommand", "Endless"]
BASES = {"NoRow": IndexError, "NoMember": LookupError}
VALUES = [
    0, -3, 10 ** 40, 10 ** 5000, True, False, None, "", "a", "no name at all", "100%", [], [1, [2, ["x"]]], (), ("a", "b"),
    (None, [True]), Group.named("a"), [Group.every()],
]


def error_classes():
    return {name: getattr(errors, name) for name in list(WITH_ONE) + WITH_NONE}


class Bases(unittest.TestCase):
    def test_the_root_is_a_value_error(self):
        self.assertEqual(errors.CrowdError.__bases__, (ValueError,))

    def test_each_derives_directly_from_its_base(self):
        for name, error in error_classes().items():
            with self.subTest(name=name):
                self.assertEqual(error.__bases__, (BASES.get(name, errors.CrowdError),))

    def test_none_derives_from_another(self):
        for name, error in error_classes().items():
            for other_name, other in error_classes().items():
                with self.subTest(name=name, other=other_name):
                    self.assertEqual(issubclass(error, other), name == other_name)

    def test_no_row_and_no_member_are_no_crowd_errors(self):
        self.assertFalse(issubclass(errors.NoRow, (ValueError, errors.CrowdError)))
        self.assertFalse(issubclass(errors.NoMember, (ValueError, errors.CrowdError)))

    def test_they_are_defined_in_the_module(self):
        for name, error in error_classes().items():
            self.assertEqual((error.__module__, error.__name__), ("mostcrowds.errors", name))


class Attributes(unittest.TestCase):
    def test_the_very_value_is_kept(self):
        for name, attribute in WITH_ONE.items():
            error = getattr(errors, name)
            for at, value in enumerate(VALUES):
                with self.subTest(name=name, at=at):
                    self.assertIs(getattr(error(value), attribute), value)

    def test_the_parameter_has_the_same_name(self):
        for name, attribute in WITH_ONE.items():
            error = getattr(errors, name)
            for at, value in enumerate(VALUES):
                with self.subTest(name=name, at=at):
                    self.assertIs(getattr(error(**{attribute: value}), attribute), value)

    def test_a_list_is_kept_itself(self):
        for name, attribute in WITH_ONE.items():
            value = ["a"]
            error = getattr(errors, name)(value)
            value.append("b")
            self.assertEqual(getattr(error, attribute), ["a", "b"])

    def test_one_value_is_needed(self):
        for name in WITH_ONE:
            with self.subTest(name=name), self.assertRaises(TypeError):
                getattr(errors, name)()

    def test_those_without_values(self):
        for name in WITH_NONE:
            self.assertEqual(vars(getattr(errors, name)()), {})


class Raising(unittest.TestCase):
    def test_they_are_caught_by_their_bases(self):
        for name, error in error_classes().items():
            made = error() if name in WITH_NONE else error(3)
            base = BASES.get(name, errors.CrowdError)
            with self.subTest(name=name), self.assertRaises(base) as caught:
                raise made
            self.assertIs(caught.exception, made)


if __name__ == "__main__":
    unittest.main()
