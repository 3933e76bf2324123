import unittest

from pointtally import errors

BARE = ("NotGrid", "NotBounded", "NotFit", "NoPoint", "ByNought", "Singular", "NotDeed", "NotDone", "NotUndone")
TOLD = {
    "NotForm": ("place",), "NotHall": ("place",), "NotTally": ("place",), "NotText": ("place",),
    "NotSheet": ("place",), "NotFormula": ("path",), "NotPaper": ("path",), "NotClaim": ("rule", "place"),
    "NotNest": ("rule", "path"), "NotNamed": ("name",), "NotBook": ("rule", "what"), "TooMany": ("limit",),
}


class Errors(unittest.TestCase):
    def test_all_are_direct_subclasses(self):
        self.assertEqual(errors.TallyError.__bases__, (ValueError,))
        for name in (*BARE, *TOLD):
            with self.subTest(name):
                self.assertEqual(getattr(errors, name).__bases__, (errors.TallyError,))
                self.assertEqual(getattr(errors, name).__module__, "pointtally.errors")

    def test_nothing_else_is_there(self):
        found = {name for name, value in vars(errors).items() if isinstance(value, type)}
        self.assertEqual(found, {"TallyError", *BARE, *TOLD})

    def test_attributes_in_their_sequence(self):
        for name, attributes in TOLD.items():
            with self.subTest(name):
                values = [("some", "thing", place) for place in range(len(attributes))]
                for made in (getattr(errors, name)(*values), getattr(errors, name)(**dict(zip(attributes, values)))):
                    self.assertEqual([getattr(made, word) for word in attributes], values)
                    self.assertEqual(vars(made), dict(zip(attributes, values)))

    def test_no_attributes(self):
        for name in BARE:
            with self.subTest(name):
                self.assertEqual(vars(getattr(errors, name)()), {})

    def test_wrong_number_of_attributes(self):
        for name, attributes in TOLD.items():
            with self.subTest(name):
                self.assertRaises(TypeError, getattr(errors, name), *range(len(attributes) - 1))
                self.assertRaises(TypeError, getattr(errors, name), *range(len(attributes) + 1))

    def test_can_be_shown(self):
        for name, attributes in TOLD.items():
            self.assertIsInstance(str(getattr(errors, name)(*[(1, "a")] * len(attributes))), str)


if __name__ == "__main__":
    unittest.main()
