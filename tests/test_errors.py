import inspect
import unittest

from seenbefore import errors

# name, built-in exception, names of the arguments
ERRORS = (
    ("NotAStream", ValueError, ("value",)),
    ("NotAWord", ValueError, ("word",)),
    ("NotAVerdict", ValueError, ("verdict",)),
    ("InvalidTest", ValueError, ("test",)),
    ("InvalidSources", ValueError, ("sources",)),
    ("InvalidClaim", ValueError, ()),
    ("Unpaired", ValueError, ()),
    ("ParseError", ValueError, ("line",)),
    ("UnknownState", LookupError, ("state",)),
    ("UnknownRule", LookupError, ("rule",)),
    ("UnknownCheckpoint", LookupError, ("number",)),
    ("UnknownRecord", LookupError, ("number",)),
    ("RuleExists", RuntimeError, ("rule",)),
    ("TooFar", RuntimeError, ("many",)),
    ("LimitExceeded", OverflowError, ("limit",)),
)

ARGUMENTS = (7, None, "text", [1, [2]], {"a": 1}, (0, 0, "new"))


class ErrorsTest(unittest.TestCase):
    def test_each_is_a_direct_subclass_of_its_built_in_exception(self):
        for name, base, _ in ERRORS:
            with self.subTest(name):
                self.assertEqual(getattr(errors, name).__bases__, (base,))

    def test_none_is_a_subclass_of_another(self):
        classes = [getattr(errors, name) for name, _, _ in ERRORS]
        for one in classes:
            for other in classes:
                self.assertEqual(issubclass(one, other), one is other)

    def test_each_is_defined_in_its_module_and_there_are_no_others(self):
        found = {name for name, value in vars(errors).items() if inspect.isclass(value)}
        self.assertEqual(found, {name for name, _, _ in ERRORS})
        for name in found:
            self.assertEqual(getattr(errors, name).__module__, "seenbefore.errors")

    def test_each_keeps_its_argument_by_position(self):
        for name, _, arguments in ERRORS:
            for value in ARGUMENTS:
                with self.subTest(name, value=value):
                    error = getattr(errors, name)(*[value for _ in arguments])
                    for argument in arguments:
                        self.assertIs(getattr(error, argument), value)

    def test_each_keeps_its_argument_by_name(self):
        for name, _, arguments in ERRORS:
            for value in ARGUMENTS:
                with self.subTest(name, value=value):
                    error = getattr(errors, name)(**{argument: value for argument in arguments})
                    for argument in arguments:
                        self.assertIs(getattr(error, argument), value)

    def test_each_is_raised_and_caught_by_its_name_and_its_base(self):
        for name, base, arguments in ERRORS:
            for caught in (getattr(errors, name), base):
                with self.subTest(name, caught=caught), self.assertRaises(caught):
                    raise getattr(errors, name)(*arguments)


if __name__ == "__main__":
    unittest.main()
