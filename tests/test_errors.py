"""hearpurse.errors: the classes, their base class and their fields."""

import unittest

from hearpurse import errors
from tests.samples import NO_NAMES

FIELDS = {
    "UnknownAccount": "name",
    "InvalidText": "line",
    "TooMany": "limit",
    "InvalidFact": "index",
    "InvalidPlace": "value",
    "TooMuch": "available",
    "UnknownNode": "node",
    "InvalidMessage": "index",
    "UnknownRequest": "value",
    "MissingConsent": "places",
    "InvalidAction": "index",
}

PLAIN = ["InvalidForest", "InvalidClaims", "InvalidSpent", "InvalidBalances", "InvalidRank", "UnknownRule"]


class TestClasses(unittest.TestCase):
    def test_the_base_class_is_a_value_error(self):
        self.assertEqual(errors.PurseError.__bases__, (ValueError,))
        self.assertEqual(errors.PurseError.__module__, "hearpurse.errors")

    def test_every_class_is_a_direct_subclass_of_the_base_class(self):
        for name in PLAIN + list(FIELDS):
            with self.subTest(name=name):
                cls = getattr(errors, name)
                self.assertEqual(cls.__name__, name)
                self.assertEqual(cls.__bases__, (errors.PurseError,))
                self.assertEqual(cls.__module__, "hearpurse.errors")

    def test_there_are_no_other_subclasses(self):
        found = [cls.__name__ for cls in errors.PurseError.__subclasses__() if cls.__module__ == "hearpurse.errors"]
        self.assertEqual(sorted(found), sorted(PLAIN + list(FIELDS)))

    def test_every_class_is_raised_and_caught_by_its_name_and_by_its_bases(self):
        for name in PLAIN + list(FIELDS):
            cls = getattr(errors, name)
            for caught in (cls, errors.PurseError, ValueError):
                with self.subTest(name=name, caught=caught):
                    with self.assertRaises(caught):
                        raise cls("x")

    def test_no_class_is_caught_by_the_name_of_another(self):
        every = [getattr(errors, name) for name in PLAIN + list(FIELDS)]
        for one in every:
            for other in every:
                self.assertEqual(issubclass(one, other), one is other)


class TestMessages(unittest.TestCase):
    def test_the_others_take_a_message(self):
        for name in PLAIN:
            with self.subTest(name=name):
                error = getattr(errors, name)("what is wrong")
                self.assertEqual(str(error), "what is wrong")


class TestFields(unittest.TestCase):
    def test_a_field_holds_the_value_itself(self):
        values = NO_NAMES + ["a", "abcdefgh", 12, 20, 60, (1, 2), [1, 2]]
        for name, field in FIELDS.items():
            for value in values:
                with self.subTest(name=name, value=value):
                    error = getattr(errors, name)(value)
                    self.assertIs(getattr(error, field), value)

    def test_the_value_may_be_passed_by_its_name(self):
        for name, field in FIELDS.items():
            with self.subTest(name=name):
                error = getattr(errors, name)(**{field: "x"})
                self.assertEqual(getattr(error, field), "x")

    def test_two_errors_have_fields_of_their_own(self):
        for name, field in FIELDS.items():
            with self.subTest(name=name):
                one = getattr(errors, name)(1)
                other = getattr(errors, name)(2)
                self.assertEqual([getattr(one, field), getattr(other, field)], [1, 2])


if __name__ == "__main__":
    unittest.main()
