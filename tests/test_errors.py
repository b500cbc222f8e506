"""Point 2 and the interface: the refusals and how they stand to one another."""

import unittest

from linegate import errors

NAMES = (
    "NoFit", "NoChange", "TooMany", "NoRule", "NoAnswer", "NoLook", "TooLate", "NoRow", "NoText",
)


def refusal_classes():
    return [getattr(errors, name) for name in NAMES]


class RefusalTest(unittest.TestCase):
    def test_any_refusal_is_a_value_error(self):
        self.assertEqual(errors.LinegateError.__bases__, (ValueError,))

    def test_each_stands_right_under_linegate_error(self):
        for refusal in refusal_classes():
            with self.subTest(refusal=refusal.__name__):
                self.assertEqual(refusal.__bases__, (errors.LinegateError,))

    def test_each_is_none_of_the_other_eight(self):
        for refusal in refusal_classes():
            made = refusal(3) if refusal is errors.NoFit else refusal("words")
            self.assertIsInstance(made, errors.LinegateError)
            self.assertIsInstance(made, ValueError)
            kin = [other for other in refusal_classes() if isinstance(made, other)]
            self.assertEqual(kin, [refusal])

    def test_each_but_no_fit_is_made_of_one_text(self):
        for refusal in refusal_classes() + [errors.LinegateError]:
            if refusal is not errors.NoFit:
                with self.subTest(refusal=refusal.__name__):
                    self.assertEqual(str(refusal("some words")), "some words")
                    self.assertEqual(refusal("some words").args, ("some words",))

    def test_no_fit_is_made_of_its_slot(self):
        for slot in (0, 17, 999):
            self.assertEqual(errors.NoFit(slot).slot, slot)

    def test_no_fit_keeps_its_slot_when_raised(self):
        with self.assertRaises(errors.LinegateError) as caught:
            raise errors.NoFit(41)
        self.assertEqual(caught.exception.slot, 41)
        self.assertIsInstance(str(caught.exception), str)


if __name__ == "__main__":
    unittest.main()
