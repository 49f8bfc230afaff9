"""[A3], [A4], [A5]: rows, menus, beliefs, gains and worths."""

import copy
import itertools
import math
import unittest
from fractions import Fraction

from frankmarks.errors import BadBelief, NoWord
from frankmarks.forms import belief_of, best, gain, is_belief, is_menu, is_row, menu_error, worth
from odd_values import ODD_VALUES

MARK = 10 ** 6
U = ((4, 0), (0, 4), (3, 3), (1, 1))
MENUS = (
    ((5, -3),),
    ((0, 0), (0, 0)),
    ((3, 0), (2, 2), (0, 3)),
    ((-MARK, MARK), (MARK, -MARK), (7, 7)),
    ((1, 2, 3), (3, 2, 1), (2, 2, 2), (1, 2, 3)),
    ((1, 0, 0, 0), (0, 1, 0, 0), (0, 0, 1, 0), (0, 0, 0, 1)),
    tuple((word, -word, word * word % 5) for word in range(8)),
    U,
)


def beliefs_for(answers, greatest):
    for items in itertools.product(range(greatest + 1), repeat=answers):
        if math.gcd(*items) == 1:
            yield items


def plain_gain(row, belief):
    return sum((Fraction(mark * item, sum(belief)) for mark, item in zip(row, belief)), Fraction(0))


class Rows(unittest.TestCase):
    def test_rows_have_two_to_four_marks(self):
        self.assertEqual(
            [is_row((0,) * length) for length in range(7)],
            [False, False, True, True, True, False, False],
        )

    def test_marks_reach_to_the_limit_and_no_further(self):
        for place in range(3):
            for mark, expected in ((MARK, True), (-MARK, True), (MARK + 1, False), (-MARK - 1, False)):
                row = [0, 0, 0]
                row[place] = mark
                self.assertIs(is_row(tuple(row)), expected)
        self.assertIs(is_row((0, 10 ** 5000)), False)

    def test_bools_are_no_marks(self):
        for row in ((True, 0), (0, False), (1, 2, True), (False, 1, 2, 3)):
            self.assertIs(is_row(row), False)

    def test_other_values_are_no_rows(self):
        for value in ODD_VALUES + (0, "12", "1,2", [0, 0], ((1, 2), (3, 4)), (None, 1), ("1", 1), ((), ())):
            self.assertIs(is_row(value), False)


class Menus(unittest.TestCase):
    def test_menus_are_menus(self):
        for menu in MENUS:
            self.assertIs(is_menu(menu), True)
            self.assertIsNone(menu_error(menu))

    def test_menus_have_one_to_eight_rows_which_may_be_equal(self):
        for words in range(1, 9):
            self.assertIsNone(menu_error(((1, 2),) * words))
        for words in (0, 9, 10, 2000):
            self.assertEqual(menu_error(((1, 2),) * words), (None, "menu"))
            self.assertIs(is_menu(((1, 2),) * words), False)

    def test_what_is_no_tuple_is_no_menu(self):
        for value in (None, True, 1, "1,2", [(1, 2)], {"0": (1, 2)}, "((1, 2),)"):
            self.assertEqual(menu_error(value), (None, "menu"))

    def test_the_first_item_that_is_no_row_is_named(self):
        for bad in (None, 5, "1,2", [1, 2], (1,), (1, 2, 3, 4, 5), (1, True), (0, MARK + 1), (), {}):
            self.assertEqual(menu_error((bad,)), (0, "row"))
            self.assertEqual(menu_error(((1, 2), bad, (3, 4))), (1, "row"))
            self.assertEqual(menu_error(((1, 2), (3, 4), bad, bad)), (2, "row"))
            self.assertEqual(menu_error(((1, 2),) * 7 + (bad,)), (7, "row"))
            self.assertEqual(menu_error((bad,) * 9), (None, "menu"))

    def test_the_first_row_of_another_length_is_named(self):
        self.assertEqual(menu_error(((1, 2), (3, 4, 5))), (1, "answers"))
        self.assertEqual(menu_error(((1, 2, 3), (3, 4, 5), (1, 2), (1, 2, 3, 4))), (2, "answers"))
        self.assertEqual(menu_error(((1, 2, 3, 4), (1, 2, 3, 4), (1, 2, 3))), (2, "answers"))

    def test_all_rows_are_looked_at_before_their_lengths(self):
        self.assertEqual(menu_error(((1, 2), (3, 4, 5), (1, True))), (2, "row"))

    def test_the_error_is_a_pair_with_an_integer_or_none(self):
        error = menu_error(((1, True),))
        self.assertEqual((type(error), type(error[0]), type(error[1])), (tuple, int, str))

    def test_odd_values_are_no_menus(self):
        for value in ODD_VALUES:
            self.assertIs(is_menu(value), False)
            self.assertIn(menu_error(value)[1], ("menu", "row"))


class Beliefs(unittest.TestCase):
    def test_beliefs_have_as_many_items_as_there_are_answers(self):
        for answers in (2, 3, 4):
            menu = ((0,) * answers,)
            for length in range(6):
                self.assertIs(is_belief(menu, (1,) * length), length == answers)

    def test_beliefs_have_no_common_divisor(self):
        for items in itertools.product(range(-2, 7), repeat=3):
            expected = min(items) >= 0 and math.gcd(*items) == 1
            self.assertIs(is_belief(((1, 2, 3),), items), expected)

    def test_items_may_be_0_and_of_any_size_but_not_all_0(self):
        huge = 10 ** 6000
        for value, expected in (
            ((0, 1), True), ((1, 0), True), ((0, 0), False), ((0, 2), False), ((huge, huge + 1), True),
            ((huge, huge), False), ((huge, 0), False), ((huge, 1), True), ((-huge, 1), False),
        ):
            self.assertIs(is_belief(U, value), expected)

    def test_bools_are_no_items(self):
        for value in ((True, 1), (1, False), (False, True), (True, True)):
            self.assertIs(is_belief(U, value), False)

    def test_odd_values_are_no_beliefs(self):
        for value in ODD_VALUES + ("11", [1, 1], {"1": 1, "2": 1}, (1, "1"), (1, None), ((1, 0), (0, 1))):
            self.assertIs(is_belief(U, value), False)

    def test_belief_of_is_the_primitive(self):
        for counts, belief in (
            ((4, 0, 6), (2, 0, 3)), ((0, 7), (0, 1)), ((3, 5), (3, 5)), ((6, 10, 15), (6, 10, 15)),
            ((5, 5, 5, 5), (1, 1, 1, 1)), ((0, 0, 0, 9), (0, 0, 0, 1)), ((12, 18), (2, 3)),
            ((6 * 10 ** 5000, 4 * 10 ** 5000), (3, 2)),
        ):
            self.assertEqual(belief_of(counts), belief)
            self.assertIs(type(belief_of(counts)), tuple)

    def test_belief_of_goes_somewhat_beyond_the_limit(self):
        self.assertEqual(belief_of((2, 4, 6, 8, 0)), (1, 2, 3, 4, 0))


class Gains(unittest.TestCase):
    def test_gain_worth_and_best_are_those_of_the_averages(self):
        for menu in MENUS:
            for belief in beliefs_for(len(menu[0]), 3):
                gains = [plain_gain(row, belief) for row in menu]
                pairs = [(each.numerator, each.denominator) for each in gains]
                most = max(gains)
                self.assertEqual([gain(menu, word, belief) for word in range(len(menu))], pairs)
                self.assertEqual(worth(menu, belief), (most.numerator, most.denominator))
                self.assertEqual(best(menu, belief), tuple(k for k, each in enumerate(gains) if each == most))

    def test_fractions_are_pairs_of_integers_in_lowest_terms(self):
        self.assertEqual(gain(((2, -2),), 0, (1, 1)), (0, 1))
        self.assertEqual(gain(((-4, -6),), 0, (3, 1)), (-9, 2))
        self.assertEqual(worth(((-4, -4),), (2, 3)), (-4, 1))
        for value in (gain(U, 0, (1, 2)), worth(U, (1, 2)), best(U, (1, 2))):
            self.assertIs(type(value), tuple)
            self.assertEqual({type(item) for item in value}, {int})

    def test_equal_rows_are_best_together(self):
        self.assertEqual(best(((1, 2), (0, 0), (1, 2)), (1, 1)), (0, 2))
        self.assertEqual(best(((0, 0),) * 8, (1, 4)), (0, 1, 2, 3, 4, 5, 6, 7))

    def test_beliefs_of_any_size(self):
        huge = 10 ** 5000
        self.assertEqual(gain(((1, 0),), 0, (huge, huge + 1)), (huge, 2 * huge + 1))
        self.assertEqual(worth(U, (huge, huge + 1)), (3, 1))
        self.assertEqual(best(U, (1, huge)), (1,))

    def test_no_word_of_the_menu(self):
        for word in ODD_VALUES + (4, -4, 5, True, False, "0", (0,), [0], (0, 0), 10 ** 5000, -10 ** 5000):
            with self.assertRaises(NoWord) as caught:
                gain(U, word, (1, 1))
            self.assertIs(caught.exception.given, word)

    def test_no_belief_for_the_menu(self):
        huge = 10 ** 5000
        for belief in ODD_VALUES + ((2, 2), (1, 1, 1), (1,), (-1, 2), (0, 0), [1, 1], "1:1", (1, True), (huge, huge)):
            for call in (lambda: gain(U, 0, belief), lambda: worth(U, belief), lambda: best(U, belief)):
                with self.assertRaises(BadBelief) as caught:
                    call()
                self.assertIs(caught.exception.given, belief)

    def test_the_word_is_judged_before_the_belief(self):
        for word in (4, -1, True, None, "0"):
            with self.assertRaises(NoWord):
                gain(U, word, (2, 2))
        with self.assertRaises(BadBelief):
            gain(U, 3, (2, 2))

    def test_menus_somewhat_beyond_the_limits(self):
        menu = ((MARK + 5, 0, 0, 0, 0),) + ((0, 0, 0, 0, 1),) * 8
        self.assertEqual(gain(menu, 8, (0, 0, 0, 0, 1)), (1, 1))
        self.assertEqual(worth(menu, (1, 0, 0, 0, 1)), (MARK + 5, 2))
        self.assertEqual(best(menu, (0, 0, 0, 0, 1)), (1, 2, 3, 4, 5, 6, 7, 8))


class Untouched(unittest.TestCase):
    def test_what_is_passed_is_never_changed(self):
        for value in ODD_VALUES:
            kept = copy.deepcopy(value)
            is_row(value), is_menu(value), menu_error(value), is_belief(U, value)
            for call in (lambda: gain(U, value, (1, 1)), lambda: worth(U, value), lambda: best(U, value)):
                with self.assertRaises((NoWord, BadBelief)):
                    call()
            self.assertEqual(repr(value), repr(kept))


if __name__ == "__main__":
    unittest.main()
