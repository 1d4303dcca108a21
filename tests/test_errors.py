import unittest

from honeyturns import errors

# Each class: the one it stands straight under, its field.
REFUSALS = {
    "Unlike": (ValueError, None),
    "Barren": (ValueError, None),
    "BadText": (ValueError, "row"),
    "BadRow": (ValueError, "row"),
    "NoDay": (LookupError, "day"),
    "NoAnt": (LookupError, "ant"),
    "NoDeed": (LookupError, "many"),
    "Already": (RuntimeError, "day"),
    "Today": (RuntimeError, "day"),
    "Last": (RuntimeError, None),
    "Dry": (ArithmeticError, "held"),
}
ABOVE = (ValueError, LookupError, RuntimeError, ArithmeticError)
FIELDS = ("row", "day", "ant", "many", "held")


def made(name, number=3):
    refusal = getattr(errors, name)
    return refusal() if REFUSALS[name][1] is None else refusal(number)


class Made(unittest.TestCase):
    def test_without_fields(self):
        for name in ("Unlike", "Barren", "Last"):
            with self.subTest(name=name):
                self.assertIs(made(name).__class__, getattr(errors, name))

    def test_by_place(self):
        for name, (_, field) in REFUSALS.items():
            if field is not None:
                for number in (0, 7, -2, 10 ** 40):
                    with self.subTest(name=name, number=number):
                        self.assertEqual(getattr(made(name, number), field), number)

    def test_by_name(self):
        for name, (_, field) in REFUSALS.items():
            if field is not None:
                for number in (0, 7, -2, 10 ** 40):
                    with self.subTest(name=name, number=number):
                        refusal = getattr(errors, name)(**{field: number})
                        self.assertEqual(getattr(refusal, field), number)

    def test_no_other_field(self):
        for name, (_, field) in REFUSALS.items():
            for other in FIELDS:
                with self.subTest(name=name, field=other):
                    self.assertEqual(hasattr(made(name), other), other == field)

    def test_fields_are_wanted(self):
        for name, (_, field) in REFUSALS.items():
            if field is not None:
                with self.subTest(name=name):
                    self.assertRaises(TypeError, getattr(errors, name))

    def test_each_keeps_its_own(self):
        one, other = errors.NoDay(4), errors.NoDay(9)
        self.assertEqual((one.day, other.day), (4, 9))


class Standing(unittest.TestCase):
    def test_straight_under(self):
        for name, (above, _) in REFUSALS.items():
            with self.subTest(name=name):
                self.assertEqual(getattr(errors, name).__bases__, (above,))

    def test_under_none_of_the_others(self):
        for name in REFUSALS:
            for other in REFUSALS:
                with self.subTest(name=name, other=other):
                    under = issubclass(getattr(errors, name), getattr(errors, other))
                    self.assertEqual(under, name == other)

    def test_under_no_other_kind(self):
        for name, (above, _) in REFUSALS.items():
            for kind in ABOVE:
                with self.subTest(name=name, kind=kind):
                    self.assertEqual(issubclass(getattr(errors, name), kind), kind is above)

    def test_caught_by_its_class_and_the_one_above(self):
        for name, (above, _) in REFUSALS.items():
            for kind in (above, getattr(errors, name)):
                with self.subTest(name=name, kind=kind):
                    with self.assertRaises(kind):
                        raise made(name)

    def test_eleven(self):
        found = [thing for thing in vars(errors).values() if isinstance(thing, type)]
        self.assertEqual(sorted(thing.__name__ for thing in found), sorted(REFUSALS))


if __name__ == "__main__":
    unittest.main()
