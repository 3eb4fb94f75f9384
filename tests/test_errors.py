"""The interface of shadowheaps.errors."""

import unittest

from shadowheaps.errors import BadFamily, BadSet, HeapError, NoSuch, NoText

REFUSALS = (BadSet, NoSuch, BadFamily, NoText)


class Errors(unittest.TestCase):

    def test_any_refusal_is_a_value_error(self):
        self.assertTrue(issubclass(HeapError, ValueError))

    def test_each_refusal_is_a_heap_error(self):
        for refusal in REFUSALS:
            with self.subTest(refusal=refusal):
                self.assertTrue(issubclass(refusal, HeapError))
                self.assertIsNot(refusal, HeapError)

    def test_no_refusal_is_under_another(self):
        for refusal in REFUSALS:
            for other in REFUSALS:
                if other is not refusal:
                    with self.subTest(refusal=refusal, other=other):
                        self.assertFalse(issubclass(refusal, other))

    def test_the_five_are_unlike(self):
        self.assertEqual(len({HeapError, *REFUSALS}), 5)

    def test_names(self):
        names = [refusal.__name__ for refusal in (HeapError, *REFUSALS)]
        self.assertEqual(names, ["HeapError", "BadSet", "NoSuch", "BadFamily", "NoText"])


if __name__ == "__main__":
    unittest.main()
