"""[D1] to [D5], [A2] (d), (g): losses, lies, the calm choice, plain and like menus."""

import copy
import itertools
import math
import random
import unittest
from fractions import Fraction

import drawn
import judges
from drawn import MARK
from frankmarks.cells import corners
from frankmarks.lies import calm, calm_holds, greatest_loss, lie, like, loss, plain, steady
from judges import Refusing, average, averages, bad_beliefs, bad_words, pair_of
from odd_values import ODD_VALUES

MENUS = drawn.SPECIAL_MENUS + tuple(drawn.menus(5, 192))
M = ((3, 0), (2, 2), (0, 3))
N = ((2, 0), (0, 2), (1, 1), (1, 0))
E = ((1, 0), (0, 1))
HUGE = 10 ** 5000


def plain_loss(menu, said, belief):
    worths = averages(menu, belief)
    return max(worths) - worths[said]


class Losses(Refusing):
    def test_the_loss_is_the_worth_less_the_gain(self):
        for menu in MENUS[::2]:
            for belief in drawn.grid(len(menu[0]), 2):
                for said in range(len(menu)):
                    self.assertEqual(loss(menu, said, belief), pair_of(plain_loss(menu, said, belief)))

    def test_it_is_0_where_the_word_is_best(self):
        self.assertEqual(loss(M, 1, (1, 1)), (0, 1))
        self.assertEqual(loss(M, 0, (2, 1)), (0, 1))
        self.assertEqual(loss(((7, 7),), 0, (3, 4)), (0, 1))

    def test_beliefs_of_any_size(self):
        self.assertEqual(loss(E, 1, (HUGE + 1, HUGE)), (1, 2 * HUGE + 1))
        self.assertEqual(loss(((MARK, 0), (-MARK, 0)), 1, (1, HUGE)), pair_of(Fraction(2 * MARK, HUGE + 1)))

    def test_wrong_words_and_beliefs_the_word_first(self):
        for word in bad_words(3):
            self.assert_no_word(word, loss, M, word, (1, 1))
            self.assert_no_word(word, loss, M, word, (2, 2))
        for belief in bad_beliefs(2):
            self.assert_bad_belief(belief, loss, M, 0, belief)
            self.assert_no_word(None, loss, M, None, belief)


class Lies(Refusing):
    def test_least_and_greatest_losses_stand_at_corners(self):
        for menu in MENUS:
            for word, said in itertools.product(range(len(menu)), repeat=2):
                found = [(plain_loss(menu, said, corner), corner) for corner in corners(menu, word)]
                expected = None
                if found:
                    low = min(found)
                    high = min(found, key=lambda spot: (-spot[0], spot[1]))
                    expected = ((pair_of(low[0]), low[1]), (pair_of(high[0]), high[1]))
                self.assertEqual(lie(menu, word, said), expected)

    def test_no_belief_of_the_cell_has_a_loss_beyond_them(self):
        looked = 0
        for menu in MENUS[::2]:
            for belief in drawn.grid(len(menu[0]), 2):
                worths = averages(menu, belief)
                word = worths.index(max(worths))
                for said in range(len(menu)):
                    (low, _), (high, _) = lie(menu, word, said)
                    self.assertLessEqual(Fraction(*low), plain_loss(menu, said, belief))
                    self.assertLessEqual(plain_loss(menu, said, belief), Fraction(*high))
                    looked += 1
        self.assertGreater(looked, 1000)

    def test_the_least_corner_is_named_with_the_least_loss(self):
        menu = ((1, 1, 0), (0, 0, 0), (1, 1, 0))
        everywhere = (((0, 1), (0, 0, 1)), ((0, 1), (0, 0, 1)))
        self.assertEqual(lie(menu, 0, 0), everywhere)
        self.assertEqual(lie(menu, 0, 2), everywhere)
        self.assertEqual(lie(menu, 0, 1), (((0, 1), (0, 0, 1)), ((1, 1), (0, 1, 0))))
        self.assertEqual(lie(menu, 1, 0), everywhere)

    def test_the_word_itself_loses_nothing(self):
        for menu in MENUS[::4]:
            for word in range(len(menu)):
                found = corners(menu, word)
                expected = (((0, 1), found[0]), ((0, 1), found[0])) if found else None
                self.assertEqual(lie(menu, word, word), expected)

    def test_none_without_a_cell(self):
        for said in range(4):
            self.assertIsNone(lie(N, 3, said))
        self.assertIsNone(lie(((1, 1), (0, 0)), 1, 0))

    def test_wrong_words_the_first_one_first(self):
        for word in bad_words(4):
            self.assert_no_word(word, lie, N, word, 0)
            self.assert_no_word(word, lie, N, word, (99,))
            self.assert_no_word(word, lie, N, 0, word)
            self.assert_no_word(word, lie, N, 3, word)


class GreatestLosses(Refusing):
    def test_the_greatest_loss_of_all_beliefs(self):
        for menu in MENUS:
            answers = len(menu[0])
            sure = [tuple(int(at == answer) for at in range(answers)) for answer in range(answers)]
            for said in range(len(menu)):
                losses = [plain_loss(menu, said, belief) for belief in sure]
                value = greatest_loss(menu, said)
                self.assertEqual(value, (max(losses), losses.index(max(losses))))
                self.assertEqual([type(value), type(value[0]), type(value[1])], [tuple, int, int])

    def test_no_belief_has_a_greater_one(self):
        for menu in MENUS[::3]:
            for belief in drawn.grid(len(menu[0]), 2):
                for said in range(len(menu)):
                    self.assertLessEqual(plain_loss(menu, said, belief), greatest_loss(menu, said)[0])

    def test_marks_at_the_limits(self):
        self.assertEqual(greatest_loss(((MARK, 0), (-MARK, 0)), 1), (2 * MARK, 0))
        self.assertEqual(greatest_loss(((0, 0, 0),), 0), (0, 0))
        self.assertEqual(greatest_loss(((0, 1, 1), (0, 0, 0)), 1), (1, 1))

    def test_no_word(self):
        for word in bad_words(4):
            self.assert_no_word(word, greatest_loss, N, word)

    def test_steady_is_the_least_word_that_risks_least(self):
        for menu in MENUS:
            risks = [max(plain_loss(menu, word, tuple(int(at == answer) for at in range(len(menu[0]))))
                         for answer in range(len(menu[0]))) for word in range(len(menu))]
            self.assertEqual(steady(menu), (risks.index(min(risks)), min(risks)))
        self.assertEqual(steady(((0, 1), (1, 0), (0, 1))), (0, 1))
        self.assertEqual(steady(((0, 3), (3, 0), (2, 2))), (2, 1))
        self.assertEqual(steady(((5, 5),) * 8), (0, 0))


class Calm(Refusing):
    def test_what_is_returned_is_right_and_holds(self):
        for menu in MENUS:
            value = calm(menu)
            self.assertTrue(judges.calm_right(menu, value), (menu, value))
            self.assertIs(calm_holds(menu, value), True)
            self.assertEqual(calm(tuple(tuple(row) for row in menu)), value)

    def test_no_weights_risk_less_and_no_belief_is_dearer(self):
        for menu in MENUS[::3]:
            price = Fraction(*calm(menu)[0])
            self.assertLessEqual(price, steady(menu)[1])
            best = judges.tops(menu)
            for belief in drawn.grid(len(menu[0]), 2):
                self.assertLessEqual(average(best, belief) - max(averages(menu, belief)), price)
            for weights in itertools.combinations_with_replacement(range(len(menu)), 2):
                mixed = judges.mixed(menu, [(word, 1) for word in weights])
                self.assertGreaterEqual(max(top - mark for top, mark in zip(best, mixed)), price)

    def test_the_price_of_some_menus(self):
        for menu, price in (
            (E, (1, 2)), (M, (1, 1)), (((1, 0, 0), (0, 1, 0), (0, 0, 1)), (2, 3)), (((5, -3),), (0, 1)),
            (((0, 0),) * 8, (0, 1)), (((2 * 10 ** 5, 0), (0, 3)), (600000, 200003)), (((1, 1), (0, 0)), (0, 1)),
            (((MARK, -MARK), (-MARK, MARK)), (MARK, 1)),
        ):
            self.assertEqual(calm(menu)[0], price)

    def test_near_values_are_judged_as_the_document_says(self):
        said = []
        for menu in drawn.SPECIAL_MENUS + MENUS[-100:]:
            for changed in drawn.otherwise(calm(menu)):
                right = judges.calm_right(menu, changed)
                self.assertIs(calm_holds(menu, changed), right, (menu, changed))
                said.append(right)
        self.assertEqual(set(said), {True, False})

    def test_any_value(self):
        for menu in (E, M, ((0, 0),)):
            loss_, weights, belief = calm(menu)
            for odd in ODD_VALUES + (loss_, weights, belief, (loss_, weights), (loss_, weights, belief, belief)):
                for value in (odd, (odd, weights, belief), (loss_, odd, belief), (loss_, weights, odd), (odd,) * 3):
                    kept = copy.deepcopy(value)
                    self.assertIs(calm_holds(menu, value), judges.calm_right(menu, value))
                    self.assertEqual(value, kept)

    def test_the_loss_is_in_lowest_terms_and_of_integers(self):
        weights, belief = ((1, 1),), (1, 1)
        for given, right in (((1, 1), True), ((2, 2), False), ((True, 1), False), ((1, True), False), ((-1, -1), False),
                             ([1, 1], False), ((1, 1, 1), False), ((1,), False), (1, False), ("1/1", False)):
            self.assertIs(calm_holds(M, (given, weights, belief)), right)
        self.assertIs(calm_holds(((3, 3),), ((0, 1), ((0, 1),), (1, 0))), True)
        self.assertIs(calm_holds(((3, 3),), ((0, 2), ((0, 1),), (1, 0))), False)
        self.assertIs(calm_holds(((3, 3),), ((0, -1), ((0, 1),), (1, 0))), False)
        self.assertIs(calm_holds(((3, 3),), ((0, 0), ((0, 1),), (1, 0))), False)

    def test_both_sides_have_to_be_the_loss(self):
        self.assertIs(calm_holds(E, ((1, 2), ((0, 1), (1, 1)), (1, 1))), True)
        self.assertIs(calm_holds(E, ((1, 1), ((0, 1),), (1, 1))), False)
        self.assertIs(calm_holds(E, ((1, 2), ((0, 1),), (1, 1))), False)
        self.assertIs(calm_holds(E, ((1, 2), ((0, 1), (1, 1)), (2, 1))), False)
        self.assertIs(calm_holds(E, ((1, 3), ((0, 1), (1, 1)), (2, 1))), False)

    def test_numbers_of_any_size(self):
        self.assertIs(calm_holds(E, ((1, 2), ((0, HUGE), (1, HUGE)), (1, 1))), True)
        self.assertIs(calm_holds(E, ((1, 2), ((0, HUGE), (1, HUGE + 1)), (1, 1))), False)
        self.assertIs(calm_holds(M, ((1, 1), ((1, HUGE),), (2 * HUGE, HUGE + 1))), True)
        self.assertIs(calm_holds(M, ((1, 1), ((1, HUGE),), (2 * HUGE + 1, HUGE))), False)


def plain_menu(menu):
    bottoms = [min(marks) for marks in zip(*menu)]
    rows = [[mark - less for mark, less in zip(row, bottoms)] for row in menu]
    divisor = math.gcd(*itertools.chain(*rows)) or 1
    return tuple(tuple(mark // divisor for mark in row) for row in rows)


def made_of(one, factor, row):
    return [[factor * mark + more for mark, more in zip(each, row)] for each in one]


def plain_like(one, other):
    """The factor and the row by solving for them, or None."""
    if len(one) != len(other):
        return None
    factor = Fraction(1)
    for (k, a), at in itertools.product(enumerate(one), range(len(one[0]))):
        if a[at] != one[0][at]:
            factor = Fraction(other[k][at] - other[0][at], a[at] - one[0][at])
    row = [mark - factor * less for mark, less in zip(other[0], one[0])]
    if factor <= 0 or made_of(one, factor, row) != [list(each) for each in other]:
        return None
    return (pair_of(factor), tuple(pair_of(more) for more in row))


def like_pairs(seed, many):
    """Return pairs of menus of which many are like each other, or so but for one mark."""
    rng = random.Random(seed)
    pairs = []
    for number in range(many):
        answers = 2 + number % 3
        base = drawn.menu(rng, answers, rng.randint(1, 8), rng.choice((1, 2, 6, 40)))
        made = []
        for _ in range(2):
            factor, row = rng.choice((1, 1, 2, 3, 5, 12)), drawn.row(rng, answers, rng.choice((1, 9, 1000)))
            made.append([list(each) for each in made_of(base, factor, row)])
        if number % 4 == 1:
            made[1][rng.randrange(len(base))][rng.randrange(answers)] += 1
        if number % 4 == 2:
            made[1] = made_of(base, -1, (0,) * answers)
        if number % 8 == 3:
            made[1].pop()
        if made[1]:
            pairs.append(tuple(tuple(map(tuple, rows)) for rows in made))
    return pairs


class Plain(Refusing):
    def test_plain_menus(self):
        for menu in MENUS:
            self.assertEqual(plain(menu), plain_menu(menu))
            self.assertEqual(plain(plain(menu)), plain(menu))
            self.assertEqual({type(row) for row in (plain(menu),) + plain(menu)}, {tuple})

    def test_equal_rows_and_answers_with_one_mark(self):
        self.assertEqual(plain(((7, 7),)), ((0, 0),))
        self.assertEqual(plain(((-5, 3, 9),) * 8), ((0, 0, 0),) * 8)
        self.assertEqual(plain(((5, 3), (5, 7))), ((0, 0), (0, 1)))
        self.assertEqual(plain(((4, 0), (0, 6), (4, 0))), ((2, 0), (0, 3), (2, 0)))

    def test_marks_up_to_twice_the_limit(self):
        self.assertEqual(plain(((MARK, 0), (-MARK, 1))), ((2 * MARK, 0), (0, 1)))
        self.assertEqual(plain(((2 * MARK, 0), (0, 1))), ((2 * MARK, 0), (0, 1)))
        self.assertEqual(plain(((MARK, 0), (-MARK, 0))), ((1, 0), (0, 0)))


class Like(Refusing):
    def test_like_is_solved_for(self):
        found = []
        for one, other in like_pairs(6, 600):
            value = like(one, other)
            self.assertEqual(value, plain_like(one, other), (one, other))
            found.append(value is not None)
        self.assertGreater(min(found.count(True), found.count(False)), 100)

    def test_like_exactly_if_the_plain_menus_are_the_same(self):
        for one, other in like_pairs(7, 300) + drawn.menu_pairs(8, 100):
            same = len(one) == len(other) and plain(one) == plain(other)
            self.assertEqual(like(one, other) is not None, same)

    def test_cells_and_losses_of_like_menus(self):
        for one, other in like_pairs(9, 120):
            value = like(one, other)
            if value is None:
                continue
            for word in range(len(one)):
                self.assertEqual(corners(one, word), corners(other, word))
                for belief in drawn.grid(len(one[0]), 1):
                    before, after = Fraction(*loss(one, word, belief)), Fraction(*loss(other, word, belief))
                    self.assertEqual(after, before * Fraction(*value[0]))

    def test_factors_that_are_not_whole(self):
        self.assertEqual(like(((3, 0), (0, 6)), ((2, 1), (0, 5))), ((2, 3), ((0, 1), (1, 1))))
        self.assertEqual(like(((3, 1), (0, 7)), ((2, 1), (0, 5))), ((2, 3), ((0, 1), (1, 3))))
        self.assertEqual(like(((2, 0), (0, 2)), E), ((1, 2), ((0, 1), (0, 1))))

    def test_answers_with_one_mark_and_equal_rows(self):
        self.assertEqual(like(((5, 3), (5, 7)), ((-1, 0), (-1, 2))), ((1, 2), ((-7, 2), (-3, 2))))
        self.assertEqual(like(((5, 3),) * 3, ((-1, 0),) * 3), ((1, 1), ((-6, 1), (-3, 1))))
        self.assertEqual(like(((5, 3),), ((5, 3),)), ((1, 1), ((0, 1), (0, 1))))
        self.assertIsNone(like(((5, 3), (5, 3)), ((5, 3), (5, 4))))
        self.assertIsNone(like(((5, 3), (5, 4)), ((5, 3), (5, 3))))

    def test_factors_below_0_are_none(self):
        self.assertIsNone(like(E, ((-1, 0), (0, -1))))
        self.assertIsNone(like(((1, 0), (0, 0)), ((0, 0), (1, 0))))
        self.assertIsNone(like(E, ((0, 1), (1, 0))))

    def test_unlike_shapes(self):
        self.assertIsNone(like(E, E + ((0, 0),)))
        self.assertIsNone(like(((1, 1),) * 8, ((1, 1),)))
        for one, other in ((E, ((1, 2, 3),)), (((1, 2, 3, 4),) * 2, E), (((0, 0, 0),), ((0, 0, 0, 0),))):
            self.assert_unlike(like, one, other)

    def test_kinds_of_values(self):
        factor, row = like(E, ((4, 2), (1, 5)))
        self.assertEqual([type(factor), type(row), type(row[0]), type(factor[0])], [tuple, tuple, tuple, int])


if __name__ == "__main__":
    unittest.main()
