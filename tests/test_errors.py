import unittest

from gapweave import errors

PLAIN = ("NoPrices", "NoLaying", "NoManner", "NoPlace", "NoBlock", "NoRow", "NoTree", "NoMost")
WITH_FIELDS = {"NoSign": ("row", "place"), "NoNote": ("at",), "NoText": ("line",)}


class Point3ClassesOfRefusals(unittest.TestCase):
    def test_weave_error_stands_straight_beneath_value_error(self):
        self.assertEqual(errors.WeaveError.__bases__, (ValueError,))

    def test_each_refusal_stands_straight_beneath_weave_error(self):
        for name in PLAIN + tuple(WITH_FIELDS):
            with self.subTest(name=name):
                self.assertEqual(getattr(errors, name).__bases__, (errors.WeaveError,))
                self.assertEqual(getattr(errors, name).__name__, name)

    def test_no_refusal_stands_beneath_another(self):
        names = PLAIN + tuple(WITH_FIELDS)
        for one in names:
            for other in names:
                beneath = issubclass(getattr(errors, one), getattr(errors, other))
                self.assertEqual(beneath, one == other, (one, other))

    def test_plain_refusals_can_be_raised_with_words(self):
        for name in PLAIN:
            with self.subTest(name=name), self.assertRaises(errors.WeaveError):
                raise getattr(errors, name)("words")

    def test_fields_are_set_when_made(self):
        for name, fields in WITH_FIELDS.items():
            values = tuple(range(5, 5 + len(fields)))
            error = getattr(errors, name)(*values)
            self.assertEqual(tuple(getattr(error, field) for field in fields), values, name)

    def test_fields_belong_to_each_object(self):
        one = errors.NoSign(0, 3)
        errors.NoSign(1, 7)
        self.assertEqual((one.row, one.place), (0, 3))


if __name__ == "__main__":
    unittest.main()
