import unittest

from movegroups import bounds, errors

PLAIN = (
    "NoNumber NoMove NoPoints NoPoint NoImages NoMember NoWord NoLetters NoDoing NoRow NoPairs NoGroup NoNormal "
    "NoMap NoPrime NoExtension NoLikeness NoName NoOrder"
).split()
FIELDS = {
    "NoText": ["place"], "NoRecipe": ["place"], "NoMoves": ["place"], "NoRules": ["place"],
    "NoPart": ["what"], "NoSub": ["what"], "NoTable": ["fault"],
    "NoSuch": ["name"], "TooGreat": ["many", "most"], "Taken": ["name"],
}
UNDER = {
    "GroupError": PLAIN + ["NoText", "NoRecipe", "NoMoves", "NoRules", "NoPart", "NoSub", "NoTable"],
    "LostError": ["NoSuch"],
    "LimitError": ["StillOpen", "NoLarge", "TooGreat", "Taken", "NoBack"],
}
BASES = {"GroupError": ValueError, "LostError": LookupError, "LimitError": ArithmeticError}


class ErrorsTest(unittest.TestCase):
    """[2]: each refusal's class stands under its family and under no other one."""

    def test_families(self):
        for family, base in BASES.items():
            self.assertEqual(getattr(errors, family).__bases__, (base,))

    def test_classes_stand_under_their_family_alone(self):
        for family, names in UNDER.items():
            for name in names:
                kind = getattr(errors, name)
                self.assertEqual(kind.__module__, "movegroups.errors")
                for other in BASES:
                    self.assertEqual(issubclass(kind, getattr(errors, other)), other == family, name)
                for other in sum(UNDER.values(), []):
                    self.assertEqual(issubclass(kind, getattr(errors, other)), other == name, (name, other))

    def test_nothing_else_is_there(self):
        there = [name for name, thing in vars(errors).items() if isinstance(thing, type)]
        self.assertEqual(sorted(there), sorted(list(BASES) + sum(UNDER.values(), [])))

    def test_fields(self):
        for name, fields in FIELDS.items():
            given = [object() for _ in fields]
            by_place = getattr(errors, name)(*given)
            by_name = getattr(errors, name)(**dict(zip(fields, given)))
            for field, thing in zip(fields, given):
                self.assertIs(getattr(by_place, field), thing)
                self.assertIs(getattr(by_name, field), thing)


class BoundsTest(unittest.TestCase):
    def test_most(self):
        self.assertEqual(bounds.MOST, 2000)
        self.assertIs(type(bounds.MOST), int)


if __name__ == "__main__":
    unittest.main()
