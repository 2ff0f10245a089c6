import unittest

from shorthead import errors

WITH_TEXT = ("NoHead", "NoLetter", "NoWord", "NoMore", "NoDeed", "NoPlace", "Beyond", "NoStream", "NoLine")
REFUSALS = WITH_TEXT + ("NoText",)


class Classes(unittest.TestCase):
    def test_head_error_stands_straight_under_value_error(self):
        self.assertEqual(errors.HeadError.__bases__, (ValueError,))

    def test_each_refusal_stands_straight_under_head_error(self):
        for name in REFUSALS:
            with self.subTest(name):
                self.assertEqual(getattr(errors, name).__bases__, (errors.HeadError,))

    def test_no_refusal_stands_under_another(self):
        for name in REFUSALS:
            for other in REFUSALS:
                with self.subTest((name, other)):
                    under = issubclass(getattr(errors, name), getattr(errors, other))
                    self.assertEqual(under, name == other)

    def test_each_class_is_called_by_its_own_name(self):
        for name in REFUSALS + ("HeadError",):
            self.assertEqual(getattr(errors, name).__name__, name)

    def test_there_are_no_other_refusals(self):
        found = [thing for thing in vars(errors).values() if isinstance(thing, type)]
        self.assertEqual(sorted(thing.__name__ for thing in found), sorted(REFUSALS + ("HeadError",)))


class Made(unittest.TestCase):
    def test_made_with_a_text_and_taken_by_each_class_above(self):
        for name in WITH_TEXT + ("HeadError",):
            made = getattr(errors, name)
            for above in (made, errors.HeadError, ValueError):
                with self.subTest((name, above)):
                    with self.assertRaises(above) as taken:
                        raise made("some words")
                    self.assertEqual(str(taken.exception), "some words")

    def test_no_text_keeps_its_row(self):
        for row in (0, 1, 7, 400, None):
            for above in (errors.NoText, errors.HeadError, ValueError):
                with self.subTest((row, above)):
                    with self.assertRaises(above) as taken:
                        raise errors.NoText(row)
                    self.assertEqual(taken.exception.row, row)

    def test_each_object_has_its_own_row(self):
        first, second = errors.NoText(3), errors.NoText(None)
        self.assertEqual(first.row, 3)
        self.assertIs(second.row, None)


if __name__ == "__main__":
    unittest.main()
