"""[F1], [F2], [F3], [A2] (f): sums of menus, menus together, multiplied, moved and seen otherwise."""

import copy
import itertools
import random
import unittest
from fractions import Fraction

import drawn
from drawn import MARK
from frankmarks.errors import BadAnswers, BadNumber, BadRow, TooGreat, TooMany
from frankmarks.forms import is_menu
from frankmarks.joins import both, either, seen, shifted, times
from frankmarks.papers import compare, useful
from judges import Refusing, averages
from odd_values import ODD_VALUES

PAIRS = drawn.menu_pairs(7, 180) + drawn.bowed_pairs(13, 60) + [
    (one, other) for one, other in itertools.product(drawn.SPECIAL_MENUS, repeat=2) if len(one[0]) == len(other[0])
]
Q = ((1, 0), (0, 1))
# Rows of two answers, each of which is the only best one somewhere; the steps between them fall.
CHAIN = tuple((16 * k - k * k, -16 * k) for k in range(8))
HUGE = 10 ** 5000


def greatest(menu, belief):
    return max(averages(menu, belief))


def sums_of(one, other):
    return tuple(tuple(mark + more for mark, more in zip(row, line)) for row in one for line in other)


def result(join, *arguments):
    """What is returned, or the kind of the error."""
    try:
        return join(*arguments)
    except (TooMany, TooGreat) as error:
        if isinstance(error, TooMany):
            assert error.limit == 8
        return type(error)


def expected(rows):
    rows = useful(rows)
    if len(rows) > 8:
        return TooMany
    return rows if max(abs(mark) for row in rows for mark in row) <= MARK else TooGreat


class Joining(Refusing):
    def assert_raises(self, error, call, *arguments):
        with self.assertRaises(error) as caught:
            call(*arguments)
        self.assertIs(type(caught.exception), error)
        return caught.exception

    def assert_too_many(self, call, *arguments):
        self.assertEqual(self.assert_raises(TooMany, call, *arguments).limit, 8)

    def assert_too_great(self, call, *arguments):
        self.assert_raises(TooGreat, call, *arguments)

    def check_menu(self, value):
        self.assertTrue(is_menu(value))
        self.assertIs(type(value), tuple)
        self.assertEqual({type(row) for row in value}, {tuple})

    def check_joined(self, value):
        self.check_menu(value)
        self.assertEqual(list(value), sorted(set(value)))
        self.assertEqual(useful(value), value)


class Both(Joining):
    def test_the_useful_rows_of_all_sums(self):
        kinds = []
        for one, other in PAIRS:
            found = result(both, one, other)
            self.assertEqual(found, expected(sums_of(one, other)), (one, other))
            self.assertEqual(result(both, other, one), found)
            if type(found) is tuple:
                self.check_joined(found)
                kinds.append(len(found))
            else:
                kinds.append(found)
        self.assertEqual(set(kinds), {1, 2, 3, 4, 5, 6, 7, 8, TooMany, TooGreat})

    def test_worth_the_sum_of_the_worths(self):
        for one, other in PAIRS:
            found = result(both, one, other)
            if type(found) is tuple:
                for belief in drawn.grid(len(one[0]), 2):
                    self.assertEqual(greatest(found, belief), greatest(one, belief) + greatest(other, belief))

    def test_eight_rows_and_nine(self):
        self.assertEqual(both(CHAIN, ((0, 0),)), CHAIN)
        self.assertEqual(len(both(CHAIN, ((0, 0), (15, -16)))), 8)
        self.assertEqual(len(both(CHAIN[:4], CHAIN[3:])), 8)
        self.assert_too_many(both, CHAIN, ((0, 0), (16, -16)))
        self.assert_too_many(both, ((0, 0), (16, -16)), CHAIN)
        self.assertEqual(len(both(CHAIN[:7], ((0, 0), (16, -16)))), 8)
        self.assert_too_many(both, CHAIN[:4], tuple((17 * k - k * k, -17 * k) for k in range(6)))

    def test_a_menu_and_itself(self):
        for menu in drawn.SPECIAL_MENUS + (CHAIN,):
            doubled = tuple(tuple(2 * mark for mark in row) for row in useful(menu))
            if max(abs(mark) for row in doubled for mark in row) <= MARK:
                self.assertEqual(both(menu, menu), doubled)
            else:
                self.assert_too_great(both, menu, menu)
        self.assertEqual(len(both(CHAIN, CHAIN)), 8)

    def test_many_sums_of_four_answers(self):
        rng = random.Random(5)
        for size in (30, 10 ** 5):
            one, other = (tuple(drawn.row(rng, 4, size) for _ in range(8)) for _ in range(2))
            self.assertEqual(result(both, one, other), expected(sums_of(one, other)))

    def test_sums_at_the_bounds_and_beyond(self):
        self.assertEqual(both(((MARK, 0),), ((0, -MARK),)), ((MARK, -MARK),))
        self.assertEqual(both(((MARK - 1, 1 - MARK),), ((1, -1),)), ((MARK, -MARK),))
        self.assert_too_great(both, ((MARK, 0),), ((1, 0),))
        self.assert_too_great(both, ((0, -MARK),), ((0, -1),))
        self.assert_too_great(both, ((MARK, 0), (0, MARK)), ((0, 0), (1, 0)))

    def test_rows_that_are_not_useful_may_be_beyond_the_bounds(self):
        self.assertEqual(both(((0, 0), (-MARK, -MARK)), ((0, 0), (-1, -1))), ((0, 0),))
        self.assertEqual(both(((MARK, 0), (0, -MARK)), ((0, 0), (-1, -1))), ((MARK, 0),))
        # Each row is useful, but nowhere are the first ones of both menus best.
        one, other = ((5, -6, -MARK), (0, 0, 0)), ((-6, 5, -MARK), (0, 0, 0))
        self.assertEqual(both(one, other), (other[0], (0, 0, 0), one[0]))
        self.assert_too_great(both, ((MARK, -MARK), (0, 0)), ((MARK, -MARK), (0, 0)))

    def test_too_many_comes_before_too_great(self):
        high = tuple((MARK - 200 + mark, more) for mark, more in CHAIN)
        self.assert_too_many(both, high, ((500, 0), (516, -16)))
        self.assert_too_great(both, high, ((500, 0), (515, -16)))


class Either(Joining):
    def test_the_useful_rows_of_both_menus(self):
        kinds = []
        for one, other in PAIRS:
            found = result(either, one, other)
            self.assertEqual(found, expected(one + other), (one, other))
            self.assertEqual(result(either, other, one), found)
            if type(found) is tuple:
                self.check_joined(found)
                kinds.append(len(found))
            else:
                kinds.append(found)
        self.assertEqual(set(kinds), {1, 2, 3, 4, 5, 6, 7, 8, TooMany})

    def test_worth_the_greater_one(self):
        for one, other in PAIRS:
            found = result(either, one, other)
            if type(found) is tuple:
                for belief in drawn.grid(len(one[0]), 2):
                    self.assertEqual(greatest(found, belief), max(greatest(one, belief), greatest(other, belief)))

    def test_eight_rows_and_nine(self):
        self.assertEqual(either(CHAIN[:5], CHAIN[3:]), CHAIN)
        self.assertEqual(either(CHAIN, CHAIN[::-1]), CHAIN)
        self.assertEqual(either(CHAIN, ((-100, -200),) * 8), CHAIN)
        self.assertEqual(either(CHAIN, CHAIN[1:2]), CHAIN)
        ninth = (16 * 8 - 64, -16 * 8)
        self.assert_too_many(either, CHAIN, (ninth,))
        self.assert_too_many(either, (ninth,), CHAIN)
        self.assertEqual(len(either(CHAIN[1:], (ninth,))), 8)
        self.assertEqual(either(CHAIN, ((200, 200),)), ((200, 200),))

    def test_a_menu_and_itself(self):
        for menu in drawn.SPECIAL_MENUS:
            self.assertEqual(either(menu, menu), useful(menu))

    def test_menus_somewhat_beyond_the_limits(self):
        self.assert_too_great(either, ((MARK + 1, 0),), ((0, 0),))
        self.assertEqual(either(((-MARK - 1, 0),), ((0, 0),)), ((0, 0),))
        self.assertEqual(both(((1, 2),) * 9, ((0, 0),) * 9), ((1, 2),))


class Times(Joining):
    def test_each_mark_is_multiplied(self):
        for menu in drawn.menus(8, 100):
            for number in (1, 2, 7):
                if max(abs(mark) for row in menu for mark in row) * number <= MARK:
                    found = times(menu, number)
                    self.assertEqual(found, tuple(tuple(mark * number for mark in row) for row in menu))
                    self.check_menu(found)
                    for belief in drawn.grid(len(menu[0]), 2):
                        self.assertEqual(greatest(found, belief), number * greatest(menu, belief))
                else:
                    self.assert_too_great(times, menu, number)

    def test_words_keep_their_order(self):
        self.assertEqual(times(((3, 3), (0, 1), (0, 1), (-5, 2)), 2), ((6, 6), (0, 2), (0, 2), (-10, 4)))

    def test_numbers_at_the_bounds(self):
        self.assertEqual(times(((1, -1), (0, 0)), MARK), ((MARK, -MARK), (0, 0)))
        self.assertEqual(times(((MARK, -MARK),), 1), ((MARK, -MARK),))
        self.assert_too_great(times, ((1, 0), (0, 0)), MARK + 1)
        self.assert_too_great(times, ((0, 0), (0, -1)), MARK + 1)
        self.assertEqual(times(((MARK // 2, 0),), 2), ((MARK, 0),))
        self.assert_too_great(times, ((MARK // 2 + 1, 0),), 2)
        # Rows that are not useful are kept, so their marks matter.
        self.assert_too_great(times, ((0, 0), (-MARK, -MARK)), 2)

    def test_noughts_may_be_multiplied_by_anything(self):
        for number in (MARK + 1, 10 ** 40, HUGE):
            self.assertEqual(times(((0, 0, 0), (0, 0, 0)), number), ((0, 0, 0), (0, 0, 0)))

    def test_no_number(self):
        for value in ODD_VALUES + (0, -1, -2, -HUGE, "1", (1,), [2], {"1": 1}, True, False, None):
            if not (type(value) is int and value > 0):
                self.assert_given(BadNumber, value, times, Q, value)
                self.assert_given(BadNumber, value, times, ((MARK, MARK),), value)
        self.assert_too_great(times, Q, HUGE)


class Shifted(Joining):
    def test_the_row_is_added_to_each_row(self):
        rng = random.Random(9)
        for menu in drawn.menus(10, 120):
            row = drawn.row(rng, len(menu[0]), rng.choice((1, 50, MARK)))
            moved = tuple(tuple(mark + more for mark, more in zip(each, row)) for each in menu)
            if max(abs(mark) for each in moved for mark in each) > MARK:
                self.assert_too_great(shifted, menu, row)
                continue
            self.assertEqual(shifted(menu, row), moved)
            self.check_menu(moved)
            for belief in drawn.grid(len(row), 2):
                self.assertEqual(greatest(moved, belief), greatest(menu, belief) + averages((row,), belief)[0])

    def test_words_keep_their_order(self):
        self.assertEqual(shifted(((3, 3), (0, 1), (0, 1), (-5, 2)), (1, -1)), ((4, 2), (1, 0), (1, 0), (-4, 1)))

    def test_sums_at_the_bounds(self):
        self.assertEqual(shifted(((MARK - 1, 0), (0, 0)), (1, -MARK)), ((MARK, -MARK), (1, -MARK)))
        self.assert_too_great(shifted, ((MARK, 0), (0, 0)), (1, 0))
        self.assert_too_great(shifted, ((0, -MARK), (0, 0)), (0, -1))
        self.assert_too_great(shifted, ((0, 0), (-MARK, -MARK)), (-1, -1))
        self.assertEqual(shifted(((MARK, -MARK),), (-MARK, MARK)), ((0, 0),))

    def test_no_row(self):
        wrong = ODD_VALUES + ((1, 2, 3), (1,), (), [1, 2], (1, True), (MARK + 1, 0), (0, -MARK - 1), (0, HUGE), "1,2",
                              ((1, 2),), (1, "2"), (1, None))
        for value in wrong:
            for menu in (Q, ((MARK, MARK), (-MARK, -MARK))):
                self.assert_given(BadRow, value, shifted, menu, value)
        for value in ((1, 2), (1, 2, 3, 4)):
            self.assert_given(BadRow, value, shifted, ((1, 2, 3),), value)


class Seen(Joining):
    def test_marks_of_the_answers(self):
        for menu in drawn.menus(11, 48) + list(drawn.SPECIAL_MENUS):
            for many in (2, 3, 4):
                for answers in itertools.product(range(len(menu[0])), repeat=many):
                    found = seen(menu, answers)
                    self.assertEqual(found, tuple(tuple(row[answer] for answer in answers) for row in menu))
                    self.check_menu(found)

    def test_worth_what_it_was_at_the_belief_led_on(self):
        for menu in drawn.menus(12, 24):
            for answers in ((0, 1), (1, 0, 1), (0, 0), (1, 1, 1, 0), (0, 1, 0, 1)):
                for belief in drawn.grid(len(answers), 2):
                    counts = [Fraction(0)] * len(menu[0])
                    for answer, item in zip(answers, belief):
                        counts[answer] += item
                    self.assertEqual(greatest(seen(menu, answers), belief), greatest(menu, counts))

    def test_an_answer_several_times(self):
        self.assertEqual(seen(((3, 0), (0, 4)), (1, 1, 1, 1)), ((0, 0, 0, 0), (4, 4, 4, 4)))
        self.assertEqual(seen(((3, 0, 1, 2), (0, 4, 5, 6)), (3, 0)), ((2, 3), (6, 0)))
        self.assertEqual(seen(((1, 2), (1, 2)), (1, 0)), ((2, 1), (2, 1)))

    def test_no_answers(self):
        odd = [value for value in ODD_VALUES if value not in ((0, 1), (1, 0), (0, 0), (1, 1))]
        wrong = odd + [(0,), (0,) * 5, (0, 2), (2, 0), (0, -1), (True, 0), (0, True), (False, 1), [0, 1], (0, "1"),
                       (0, None), (0, (1,)), "01", {"0": 1}, (HUGE, 0), (0, 1, 1, 2), 0, 1, None]
        for value in wrong:
            self.assert_given(BadAnswers, value, seen, Q, value)
        self.assert_given(BadAnswers, wrong[-8], seen, ((1, 2, 3),), wrong[-8])
        self.assertEqual(seen(((1, 2, 3),), (0, 2)), ((1, 3),))

    def test_menus_somewhat_beyond_the_limits(self):
        menu = ((MARK + 1, 0, 1),)
        self.assert_too_great(seen, menu, (0, 1))
        self.assertEqual(seen(menu, (1, 2)), ((0, 1),))
        self.assert_too_great(shifted, menu, (0, 0, 0))
        self.assertEqual(shifted(menu, (-1, 0, 0)), ((MARK, 0, 1),))
        self.assert_too_great(times, menu, 1)
        self.assertEqual(len(times(((1, 1),) * 9, 3)), 9)


class Shapes(Joining):
    def test_unlike_numbers_of_marks_come_first(self):
        high = tuple((MARK - 200 + mark, more, 0) for mark, more in CHAIN)
        for one, other in ((Q, ((1, 2, 3),)), (((1, 2, 3, 4),), Q), (high, CHAIN), (CHAIN, high)):
            self.assert_unlike(both, one, other)
            self.assert_unlike(either, one, other)

    def test_what_is_passed_is_not_changed(self):
        for menu in drawn.SPECIAL_MENUS:
            kept = copy.deepcopy(menu)
            for join in (both, either):
                result(join, menu, menu)
            result(times, menu, 2)
            result(shifted, menu, menu[0])
            seen(menu, (0, 1))
            self.assertEqual(menu, kept)

    def test_results_are_worth_what_menus_with_more_rows_are(self):
        self.assertEqual(compare(both(Q, Q), ((2, 0), (1, 1), (0, 2))), ("alike",))
        self.assertEqual(compare(either(Q, ((0, 0),)), Q), ("alike",))


if __name__ == "__main__":
    unittest.main()
