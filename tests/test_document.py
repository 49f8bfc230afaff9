"""The examples of the document, section by section."""

import unittest

from frankmarks.errors import BadText
from frankmarks.forms import belief_of, best, gain, is_belief, menu_error, worth
from frankmarks.texts import belief_text, menu_text, parse_belief, parse_menu

U = ((4, 0), (0, 4), (3, 3), (1, 1))


class SectionA(unittest.TestCase):
    def test_texts(self):
        self.assertEqual(
            [parse_menu("4,0 | 0,4 | 3,3 | 1,1") == U, menu_text(((-1, 2), (0, 0))), parse_belief("3:1"),
             belief_text((0, 1, 0)), belief_of((4, 0, 6))],
            [True, "-1,2 | 0,0", (3, 1), "0:1:0", (2, 0, 3)],
        )

    def test_gains(self):
        self.assertEqual(
            [gain(U, 0, (3, 1)), worth(U, (3, 1)), best(U, (3, 1)), best(U, (1, 1)), best(U, (0, 1)),
             is_belief(U, (2, 2)), is_belief(U, (0, 1))],
            [(3, 1), (3, 1), (0, 2), (2,), (1,), False, True],
        )

    def test_menu_errors(self):
        self.assertEqual(
            [menu_error(((1, 2), (3, 4, 5))), menu_error(((1, 2), (1, True))), menu_error(())],
            [(1, "answers"), (1, "row"), (None, "menu")],
        )

    def test_a_bad_text(self):
        with self.assertRaises(BadText) as caught:
            parse_belief("2:2")
        self.assertEqual(caught.exception.given, "2:2")
        self.assertEqual(repr(caught.exception), "BadText('2:2')")


if __name__ == "__main__":
    unittest.main()
