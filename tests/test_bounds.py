"""[Z2]: the limits."""

import unittest

from frankmarks import bounds


class Limits(unittest.TestCase):
    def test_each_limit_is_the_integer_of_the_document(self):
        limits = {
            "MAX_ANSWERS": 4,
            "MAX_BATCH": 20,
            "MAX_BOOK": 6,
            "MAX_EDITS": 40,
            "MAX_MARK": 1000000,
            "MAX_WORDS": 8,
        }
        for name, limit in limits.items():
            with self.subTest(name):
                self.assertIs(type(getattr(bounds, name)), int)
                self.assertEqual(getattr(bounds, name), limit)


if __name__ == "__main__":
    unittest.main()
