"""[A6], [A2] (h): the texts of rows, menus and beliefs."""

import copy
import itertools
import math
import unittest

from frankmarks.errors import BadText
from frankmarks.texts import belief_text, menu_text, parse_belief, parse_menu, parse_row, row_text
from odd_values import ODD_VALUES

MARK = 10 ** 6
MARKS = (-MARK, -10, -1, 0, 1, 7, 10, MARK)
SIGNS = (" ", "\n", "\t", "-", "+", "0", ",", ":", "|", " | ", "_", ".", "x")


def with_one_sign_changed(text):
    """Yield the text with a sign put in, left out or put otherwise, at every place."""
    for place in range(len(text) + 1):
        for sign in SIGNS:
            yield text[:place] + sign + text[place:]
            yield text[:place] + sign + text[place + 1:]
        yield text[:place] + text[place + 1:]


class Refusing(unittest.TestCase):
    def assert_refused(self, parse, *texts):
        for text in texts:
            with self.subTest(text), self.assertRaises(BadText) as caught:
                parse(text)
            self.assertIs(caught.exception.given, text)


class RowTexts(Refusing):
    def test_each_row_has_its_text(self):
        self.assertEqual(row_text((1, -2)), "1,-2")
        self.assertEqual(row_text((0, 10, -MARK, MARK)), "0,10,-1000000,1000000")

    def test_parsing_the_text_returns_the_row(self):
        for length in (2, 3):
            for row in itertools.product(MARKS, repeat=length):
                self.assertEqual(row_text(row), ",".join(str(mark) for mark in row))
                self.assertEqual(parse_row(row_text(row)), row)
        self.assertEqual(parse_row("1,2,3,4"), (1, 2, 3, 4))
        self.assertIs(type(parse_row("1,2")), tuple)
        self.assertEqual({type(mark) for mark in parse_row("1,0")}, {int})

    def test_marks_of_very_many_digits_are_written(self):
        for digits in (59, 60, 61, 119, 120, 121, 3999, 4000, 4400):
            low = 10 ** (digits - 1)
            self.assertEqual(row_text((low, -low)), "1" + "0" * (digits - 1) + ",-1" + "0" * (digits - 1))
            nines = 10 ** digits - 1
            self.assertEqual(row_text((nines, -nines)), "9" * digits + ",-" + "9" * digits)

    def test_rows_somewhat_beyond_the_limits_are_written(self):
        self.assertEqual(row_text((1, 2, 3, 4, MARK + 1)), "1,2,3,4,1000001")

    def test_other_texts_are_refused(self):
        self.assert_refused(
            parse_row, "", "1", "1,", ",1", "1,2,", ",1,2", "1,,2", "1,2,3,4,5", "1;2", "1:2", "1, 2", "1 ,2",
            " 1,2", "1,2 ", "\n1,2", "1,2\n", "1\n,2", "1\n2", "-0,1", "1,-0", "+1,2", "01,2", "1,02", "-01,2",
            "00,1", "--1,2", "1,-", "-,1", "- 1,2", "1-,2", "1_0,2", "1.0,2", "1e3,2", "0x1,2", "(1,2)", "True,1",
            "None,1", "1,2 | 3,4", "1000001,0", "0,-1000001", "9" * 10000 + ",1", "1,-" + "9" * 5000, "1," * 4999 + "1",
        )

    def test_a_sign_more_less_or_otherwise_is_no_text_or_that_of_another_row(self):
        for text in ("1,-5", "0,0", "-1,10"):
            for changed in with_one_sign_changed(text):
                with self.subTest(changed):
                    self.check_row_or_refused(changed)

    def check_row_or_refused(self, text):
        try:
            row = parse_row(text)
        except BadText as error:
            self.assertIs(error.given, text)
        else:
            self.assertEqual(row_text(row), text)
            self.assertIn(len(row), (2, 3, 4))


class MenuTexts(Refusing):
    def test_each_menu_has_its_text(self):
        self.assertEqual(menu_text(((-1, 2), (0, 0))), "-1,2 | 0,0")
        self.assertEqual(menu_text(((5, 6, 7),)), "5,6,7")

    def test_parsing_the_text_returns_the_menu(self):
        for words in range(1, 9):
            for answers in (2, 3, 4):
                for at in range(len(MARKS)):
                    marks = itertools.cycle(MARKS[at:] + MARKS[:at])
                    menu = tuple(tuple(next(marks) for _ in range(answers)) for _ in range(words))
                    self.assertEqual(parse_menu(menu_text(menu)), menu)
        self.assertEqual(parse_menu("1,2 | 1,2"), ((1, 2), (1, 2)))

    def test_menus_somewhat_beyond_the_limits_are_written(self):
        self.assertEqual(menu_text(((1, 2),) * 9), " | ".join(["1,2"] * 9))

    def test_other_texts_are_refused(self):
        self.assert_refused(
            parse_menu, "", "1", "1 | 2", "1,2 | 3", "1,2 | 3,4,5", "1,2,3 | 4,5", "1,2|3,4", "1,2 |3,4", "1,2| 3,4",
            "1,2  | 3,4", "1,2 |  3,4", "1,2 | ", " | 1,2", "1,2 |", "| 1,2", "1,2 |  | 3,4", "1,2 | | 3,4", " 1,2",
            "1,2 ", "\n1,2", "1,2\n", "1,2 | 3,4\n", "1,2\n| 3,4", "1,2 |\n3,4", "1,2\n3,4", "-0,1", "1,2 | -0,1",
            "1,2 | +1,1", "1,2 | 01,1", "1,2 | 1,1000001", "1,2 | -1000001,0", " | ".join(["1,2"] * 9),
            " | ".join(["1,2"] * 1400), "1,2 | " + "9" * 5000 + ",1",
        )

    def test_a_sign_more_less_or_otherwise_is_no_text_or_that_of_another_menu(self):
        for text in ("1,-5 | 0,10", "3,4", "-1,0,1 | 2,3,4"):
            for changed in with_one_sign_changed(text):
                with self.subTest(changed):
                    self.check_menu_or_refused(changed)

    def check_menu_or_refused(self, text):
        try:
            menu = parse_menu(text)
        except BadText as error:
            self.assertIs(error.given, text)
        else:
            self.assertEqual(menu_text(menu), text)
            self.assertEqual(len({len(row) for row in menu}), 1)


class BeliefTexts(Refusing):
    def test_each_belief_has_its_text(self):
        self.assertEqual(belief_text((0, 1, 0)), "0:1:0")
        self.assertEqual(belief_text((12, 5)), "12:5")

    def test_parsing_the_text_returns_the_belief(self):
        for answers in (2, 3, 4):
            for belief in itertools.product((0, 1, 2, 9, 10), repeat=answers):
                text = ":".join(str(item) for item in belief)
                if math.gcd(*belief) == 1:
                    self.assertEqual(belief_text(belief), text)
                    self.assertEqual(parse_belief(text), belief)
                else:
                    self.assert_refused(parse_belief, text)

    def test_items_have_at_most_40_digits(self):
        most = 10 ** 40 - 1
        for belief in ((most, 1), (0, 1, most), (most, most - 1), (10 ** 39, 1)):
            self.assertEqual(parse_belief(belief_text(belief)), belief)
        self.assert_refused(
            parse_belief, "1" + "0" * 40 + ":1", "1:" + "9" * 41, "1:0:" + "9" * 4000, "1:" + "9" * 5000,
            "9" * 9998 + ":1",
        )

    def test_items_of_very_many_digits_are_written(self):
        for digits in (41, 60, 61, 3999, 4000, 4400):
            self.assertEqual(belief_text((10 ** (digits - 1), 1)), "1" + "0" * (digits - 1) + ":1")

    def test_other_texts_are_refused(self):
        self.assert_refused(
            parse_belief, "", "1", "0", ":", "1:", ":1", "1::1", "1:2:3:4:5", "2:2", "0:0", "0:2", "2:4:6", "0:0:0:0",
            "-1:2", "1:-1", "-1:-2", "1:-0", "-0:1", "+1:2", "1:+2", "01:2", "1:02", "1:00", "1 :2", "1: 2", " 1:2",
            "1:2 ", "\n1:2", "1:2\n", "1\n:2", "1\n2", "1,2", "1;2", "1/2", "1_0:3", "1.0:2", "1 | 2", "(1, 2)",
            "1:" * 4999 + "1",
        )

    def test_a_sign_more_less_or_otherwise_is_no_text_or_that_of_another_belief(self):
        for text in ("1:5", "0:1", "10:3:0"):
            for changed in with_one_sign_changed(text):
                with self.subTest(changed):
                    self.check_belief_or_refused(changed)

    def check_belief_or_refused(self, text):
        try:
            belief = parse_belief(text)
        except BadText as error:
            self.assertIs(error.given, text)
        else:
            self.assertEqual(belief_text(belief), text)
            self.assertEqual(math.gcd(*belief), 1)


class AnyValues(Refusing):
    def test_what_is_no_text_is_refused_and_left_as_it_is(self):
        for value in ODD_VALUES + ((1, 2), ((1, 2),), ["1,2"], ("1,2",), {"1,2": "1,2"}, 12, 10 ** 5000, b"1,2"):
            kept = repr(copy.deepcopy(value)) if value != 10 ** 5000 else None
            for parse in (parse_row, parse_menu, parse_belief):
                with self.assertRaises(BadText) as caught:
                    parse(value)
                self.assertIs(caught.exception.given, value)
            if kept is not None:
                self.assertEqual(repr(value), kept)

    def test_digits_of_other_scripts_are_refused(self):
        self.assert_refused(parse_row, "\u0661,\u0662", "\u00b2,1", "\uff11,2")
        self.assert_refused(parse_menu, "\u0661,\u0662", "1,2 | \uff11,2")
        self.assert_refused(parse_belief, "\u0661:\u0662", "1:\u00b2")


if __name__ == "__main__":
    unittest.main()
