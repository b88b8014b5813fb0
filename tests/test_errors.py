"""The errors of the interface: their bases, what they keep, and that they keep nothing that was passed."""

import unittest

from lossbars import errors


class Errors(unittest.TestCase):

    def test_bases(self):
        self.assertEqual(errors.LossError.__bases__, (ValueError,))
        self.assertEqual(errors.NameMissing.__bases__, (LookupError,))
        for name in ["TooMany", "BadDeed", "NothingDone", "BadSort", "BadValue", "BadLimit", "BadAct", "BadName",
                     "TwiceTold", "BadPosition", "Clash", "BadText"]:
            self.assertEqual(getattr(errors, name).__bases__, (errors.LossError,), name)
        for name in ["UnknownName", "NoMoment"]:
            self.assertEqual(getattr(errors, name).__bases__, (errors.NameMissing,), name)

    def test_each_is_defined_there(self):
        for name in ["LossError", "NameMissing", "TooMany", "Clash", "NoMoment"]:
            self.assertEqual(getattr(errors, name).__module__, "lossbars.errors")

    def test_what_is_kept(self):
        for name, attribute, told in [
                ("BadSort", "path", (1, 2)), ("BadValue", "path", ()), ("BadLimit", "path", (1, 0, 1)),
                ("BadAct", "path", (2,)), ("BadName", "name", "x y"), ("TwiceTold", "name", "a"),
                ("BadPosition", "number", 3), ("Clash", "spots", (("rule", "a"), ("rule", "b"))),
                ("BadText", "place", 0), ("UnknownName", "name", None), ("NoMoment", "number", True)]:
            error = getattr(errors, name)(told)
            self.assertEqual(vars(error), {attribute: told}, name)
            self.assertIs(getattr(error, attribute).__class__, told.__class__)

    def test_those_without_arguments(self):
        for name in ["TooMany", "BadDeed", "NothingDone"]:
            self.assertEqual(vars(getattr(errors, name)()), {})

    def test_nothing_that_was_passed_is_kept(self):
        for name, attribute in [("BadName", "name"), ("TwiceTold", "name"), ("UnknownName", "name"),
                                ("NoMoment", "number")]:
            told = ["a", ({"b": [1]}, [2])]
            error = getattr(errors, name)(told)
            found = getattr(error, attribute)
            told[1][0]["b"].append(5)
            told[1][1].append(6)
            told.append(7)
            self.assertEqual(found, ["a", ({"b": [1]}, [2])])
            self.assertNotIn(told, error.args)

    def test_they_are_caught_by_their_bases(self):
        with self.assertRaises(ValueError):
            raise errors.TooMany()
        with self.assertRaises(LookupError):
            raise errors.NoMoment(7)


if __name__ == "__main__":
    unittest.main()
