"""Section 18, and what sections 2 and the interface say of errors."""

import copy
import inspect
import unittest

from gridupgrade import errors
from gridupgrade.errors import UpgradeError
from tests.values import any_values

ARGUMENTS = {
    "NoRelease": "value",
    "NoService": "value",
    "Unreachable": "names",
    "NotTwoSided": "cycle",
    "TooLarge": "limit",
    "BadSchedule": "value",
    "NotPossible": "index",
    "NotUpgrade": "value",
    "BadPath": "value",
    "BadSkips": "value",
    "BadPrice": "name",
    "NotWave": "value",
    "BadState": "value",
    "Blocked": "services",
    "Mixed": "present",
    "TooDear": "price",
    "BadText": "value",
    "BadLine": "line",
}
WITHOUT_ARGUMENT = ("NothingToUndo", "NoFleet")


def kinds():
    """Return the class of each error with an argument, and the argument's name."""
    return [(getattr(errors, kind), name) for kind, name in ARGUMENTS.items()]


class Classes(unittest.TestCase):
    def test_there_are_just_these_errors(self):
        defined = [name for name, kind in vars(errors).items() if inspect.isclass(kind)]
        self.assertEqual(sorted(defined), sorted(["UpgradeError", *ARGUMENTS, *WITHOUT_ARGUMENT]))
        self.assertEqual(len(defined), 21)

    def test_direct_base_classes(self):
        self.assertEqual(UpgradeError.__bases__, (ValueError,))
        for name in [*ARGUMENTS, *WITHOUT_ARGUMENT]:
            self.assertEqual(getattr(errors, name).__bases__, (UpgradeError,), name)

    def test_argument_names(self):
        for kind, name in kinds():
            self.assertEqual(list(inspect.signature(kind).parameters), [name])


class Arguments(unittest.TestCase):
    def values(self):
        return any_values() + ["ra", 10 ** 5000, -10 ** 5000, [10 ** 5000], "a" * 20000]

    def test_by_position(self):
        for kind, name in kinds():
            for value in self.values():
                error = kind(value)
                self.assertIs(getattr(error, name), value)
                self.assertEqual(list(vars(error)), [name])

    def test_by_name(self):
        for kind, name in kinds():
            for value in self.values():
                error = kind(**{name: value})
                self.assertIs(getattr(error, name), value)
                self.assertEqual(list(vars(error)), [name])

    def test_values_are_not_changed(self):
        for kind, name in kinds():
            for value in any_values():
                before = copy.deepcopy(value)
                kind(value)
                self.assertEqual(repr(value), repr(before))

    def test_one_argument_is_needed(self):
        for kind, name in kinds():
            self.assertRaises(TypeError, kind)
            self.assertRaises(TypeError, kind, 1, 2)

    def test_without_argument(self):
        for name in WITHOUT_ARGUMENT:
            self.assertEqual(vars(getattr(errors, name)()), {})

    def test_values_stay_apart(self):
        first, second = errors.NoRelease("ra"), errors.NoRelease("rb")
        self.assertEqual([first.value, second.value], ["ra", "rb"])


class Raising(unittest.TestCase):
    def test_caught_by_each_base_class(self):
        for kind, name in kinds():
            for base in (kind, UpgradeError, ValueError):
                with self.assertRaises(base) as caught:
                    raise kind(["ra"])
                self.assertEqual(getattr(caught.exception, name), ["ra"])
        for name in WITHOUT_ARGUMENT:
            self.assertIsInstance(getattr(errors, name)(), UpgradeError)

    def test_errors_are_not_caught_by_each_other(self):
        everything = [getattr(errors, name) for name in [*ARGUMENTS, *WITHOUT_ARGUMENT]]
        for kind in everything:
            self.assertEqual([other for other in everything if issubclass(kind, other)], [kind])

    def test_can_be_shown_with_integers_of_any_length(self):
        for kind, name in kinds():
            error = kind(10 ** 5000)
            self.assertIsInstance(str(error), str)
            self.assertIsInstance(repr(error), str)
        for name in WITHOUT_ARGUMENT:
            self.assertIsInstance(str(getattr(errors, name)()), str)


if __name__ == "__main__":
    unittest.main()
