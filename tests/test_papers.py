"""[C1] to [C6], [A2] (a), (b), (c), (g): what shows that words are said, shut or never best, and that menus are alike."""

import copy
import itertools
import random
import unittest

import drawn
import judges
from drawn import MARK
from frankmarks.papers import (
    compare, compare_holds, reach, reach_holds, stand, stand_holds, under, under_holds, useful,
)
from judges import Refusing, bad_words
from odd_values import ODD_VALUES

MENUS = drawn.SPECIAL_MENUS + tuple(drawn.menus(2, 240))
PAIRS = drawn.menu_pairs(3, 200) + [
    (one, other) for one, other in itertools.product(drawn.SPECIAL_MENUS, repeat=2) if len(one[0]) == len(other[0])
]
M = ((3, 0), (2, 2), (0, 3))
N = ((2, 0), (0, 2), (1, 1), (1, 0))
HUGE = 10 ** 5000


def words_of(menus):
    return [(menu, word) for menu in menus for word in range(len(menu))]


def scaled(weights, factor):
    return tuple((word, weight * factor) for word, weight in weights)


def odd_pairs(*kinds):
    """Values that look like evidence of these kinds, but for a part of them."""
    for kind in kinds:
        yield from ((kind,), (kind, None), (kind, ()), (kind, (1, 1), (1, 1)), [kind, (1, 1)], (kind, [1, 1]),
                    (kind, ((0, 1),), 1), (kind, (True, 1)), (kind, (1, True)), (kind, ((True, 1),)),
                    (kind, ((0, True),)), (kind, ((0, 1), (0, 1))), (kind, ((1, 1), (0, 1))), (kind, ((0, 0), (1, 1))),
                    (kind, ((0, -1), (1, 2))), (kind, [(0, 1), (1, 1)]), (kind, ([0, 1], [1, 1])), (kind, ((0, 1, 1),)),
                    (kind, ((99, 1),)), (kind, ((-1, 1),)), (kind, ((0, "1"),)), (kind, (("0", 1),)), (kind, (0, 1)),
                    (kind, ((0,),)), (kind, (((0, 1),),)), (kind, {"0": 1}), (kind, "(0, 1)"), ((kind,), (1, 1)))
        for value in ODD_VALUES:
            yield (kind, value)
            yield (value, (1, 1))


class Holding(Refusing):
    def check_others(self, holds, judge, value):
        """The function says of all values that are nearly this one what the judge says."""
        said = []
        for changed in drawn.otherwise(value):
            right = judge(changed)
            self.assertIs(holds(changed), right, (holds, changed))
            said.append(right)
        return said

    def check_odd(self, holds, judge, *kinds):
        for value in ODD_VALUES + tuple(odd_pairs(*kinds)):
            kept = copy.deepcopy(value)
            self.assertIs(holds(value), judge(value), value)
            self.assertEqual(value, kept)


class Stands(Holding):
    def test_what_is_returned_is_right_and_holds(self):
        seen = set()
        for menu, word in words_of(MENUS):
            value = stand(menu, word)
            self.assertTrue(judges.stand_right(menu, word, value), (menu, word, value))
            self.assertIs(stand_holds(menu, word, value), True)
            self.assertEqual(stand(tuple(tuple(row) for row in menu), word), value)
            seen.add((len(menu[0]), value[0]))
        self.assertEqual(len(seen), 6)

    def test_a_word_is_alone_where_small_beliefs_show_it(self):
        for menu in MENUS[::3]:
            for belief in drawn.grid(len(menu[0]), 2):
                worths = judges.averages(menu, belief)
                for word in range(len(menu)):
                    lone = worths[word] == max(worths) and worths.count(max(worths)) == 1
                    self.assertIs(stand_holds(menu, word, ("alone", belief)), lone)
                    self.assertTrue(stand(menu, word)[0] == "alone" or not lone)

    def test_a_mix_one_below_and_one_above_it(self):
        ends = ((MARK, 0, 4), (0, MARK, 8))
        for step, kind in ((0, "shut"), (-1, "shut"), (1, "alone")):
            middle = tuple((a + b) // 2 + step for a, b in zip(*ends))
            self.assertEqual(stand(ends + (middle,), 2)[0], kind)
        self.assertEqual(stand(ends + ((MARK // 2, MARK // 2, 7),), 2)[0], "alone")
        self.assertEqual(stand(ends + ((MARK // 2, MARK // 2, 5),), 2)[0], "shut")

    def test_equal_rows_shut_each_other(self):
        for menu in (((1, 2), (1, 2)), ((3, 3, 3),) * 8, ((5, 0), (0, 0), (5, 0))):
            self.assertEqual(stand(menu, 0)[0], "shut")
            self.assertEqual(reach(menu, 0)[0], "best")
        self.assertIs(stand_holds(((1, 2), (1, 2)), 0, ("shut", ((1, 7),))), True)
        self.assertIs(stand_holds(((1, 2), (1, 2)), 0, ("shut", ((0, 7),))), False)

    def test_one_row_is_alone(self):
        self.assertEqual(stand(((4, -4),), 0)[0], "alone")
        for value in (("alone", (1, 0)), ("alone", (HUGE, 1))):
            self.assertIs(stand_holds(((4, -4),), 0, value), True)
        self.assertIs(stand_holds(((4, -4),), 0, ("shut", ())), False)
        self.assertIs(stand_holds(((4, -4),), 0, ("shut", ((0, 1),))), False)

    def test_near_values_are_judged_as_the_document_says(self):
        said = []
        for menu, word in words_of(drawn.SPECIAL_MENUS + MENUS[-60:]):
            value = stand(menu, word)
            said += self.check_others(
                lambda changed: stand_holds(menu, word, changed),
                lambda changed: judges.stand_right(menu, word, changed), value,
            )
        self.assertEqual(set(said), {True, False})

    def test_any_value(self):
        for menu, word in words_of((N, M, ((0, 0), (0, 0)))):
            self.check_odd(
                lambda value: stand_holds(menu, word, value),
                lambda value: judges.stand_right(menu, word, value), "alone", "shut", "best", "never",
            )

    def test_numbers_of_any_size(self):
        self.assertIs(stand_holds(N, 0, ("alone", (HUGE + 1, HUGE))), True)
        self.assertIs(stand_holds(N, 0, ("alone", (HUGE, HUGE + 1))), False)
        self.assertIs(stand_holds(N, 2, ("shut", ((0, HUGE), (1, HUGE)))), True)
        self.assertIs(stand_holds(N, 2, ("shut", ((0, HUGE), (1, HUGE + 1)))), False)
        self.assertIs(stand_holds(N, 3, ("shut", ((0, HUGE), (1, HUGE), (2, 1)))), True)

    def test_no_word(self):
        for word in bad_words(4):
            self.assert_no_word(word, stand, N, word)
            self.assert_no_word(word, stand_holds, N, word, ("alone", (2, 1)))
            self.assert_no_word(word, stand_holds, N, word, None)


class Reaches(Holding):
    def test_what_is_returned_is_right_and_holds(self):
        seen = set()
        for menu, word in words_of(MENUS):
            value = reach(menu, word)
            self.assertTrue(judges.reach_right(menu, word, value), (menu, word, value))
            self.assertIs(reach_holds(menu, word, value), True)
            self.assertEqual(reach(tuple(tuple(row) for row in menu), word), value)
            seen.add((len(menu[0]), value[0], stand(menu, word)[0]))
        self.assertEqual(len(seen), 9)

    def test_a_mix_and_one_below_it(self):
        ends = ((MARK, -MARK), (-MARK, MARK))
        self.assertEqual([reach(ends + (row,), 2)[0] for row in ((0, 0), (-1, -1), (0, -1), (-1, 0), (1, 1))],
                         ["best", "never", "never", "never", "best"])
        self.assertEqual([reach(((2, 0), (0, 2), row), 2)[0] for row in ((2, -9), (-9, 2), (1, 1), (0, 0))],
                         ["best", "best", "best", "never"])

    def test_more_is_asked_for_than_for_shut(self):
        self.assertIs(reach_holds(N, 2, ("never", ((0, 1), (1, 1)))), False)
        self.assertIs(reach_holds(N, 3, ("never", ((0, 2), (1, 1)))), True)
        self.assertIs(reach_holds(N, 3, ("never", ((0, 2), (1, 1), (2, 1)))), True)
        self.assertIs(reach_holds(N, 3, ("never", ((0, 2), (1, 1), (3, 1)))), False)
        self.assertIs(reach_holds(N, 3, ("never", ((2, 1),))), False)

    def test_the_word_need_not_be_the_only_best_one(self):
        self.assertIs(reach_holds(N, 0, ("best", (1, 1))), True)
        self.assertIs(reach_holds(N, 2, ("best", (1, 1))), True)
        self.assertIs(reach_holds(N, 2, ("best", (2, 2))), False)
        self.assertIs(reach_holds(N, 2, ("best", (2, 1))), False)

    def test_near_values_are_judged_as_the_document_says(self):
        said = []
        for menu, word in words_of(drawn.SPECIAL_MENUS + MENUS[-60:]):
            value = reach(menu, word)
            said += self.check_others(
                lambda changed: reach_holds(menu, word, changed),
                lambda changed: judges.reach_right(menu, word, changed), value,
            )
        self.assertEqual(set(said), {True, False})

    def test_any_value(self):
        for menu, word in words_of((N, M, ((0, 0), (0, 0)))):
            self.check_odd(
                lambda value: reach_holds(menu, word, value),
                lambda value: judges.reach_right(menu, word, value), "alone", "shut", "best", "never",
            )

    def test_numbers_of_any_size(self):
        self.assertIs(reach_holds(N, 1, ("best", (HUGE - 1, HUGE))), True)
        self.assertIs(reach_holds(N, 1, ("best", (HUGE + 1, HUGE))), False)
        self.assertIs(reach_holds(N, 3, ("never", ((0, HUGE + 1), (1, HUGE)))), True)
        self.assertIs(reach_holds(N, 3, ("never", ((0, HUGE), (1, HUGE)))), False)

    def test_no_word(self):
        for word in bad_words(4):
            self.assert_no_word(word, reach, N, word)
            self.assert_no_word(word, reach_holds, N, word, ("best", (1, 1)))
            self.assert_no_word(word, reach_holds, N, word, None)


class Useful(Refusing):
    def test_useful_rows_are_somewhere_alone_among_the_unlike_rows(self):
        for menu in MENUS:
            rows = tuple(sorted(set(menu)))
            expected = tuple(row for word, row in enumerate(rows) if stand(rows, word)[0] == "alone")
            self.assertEqual(useful(menu), expected)
            self.assertIs(type(useful(menu)), tuple)

    def test_equal_rows_count_once(self):
        self.assertEqual(useful(((1, 2),) * 8), ((1, 2),))
        self.assertEqual(useful(((4, 0), (4, 0), (0, 4), (2, 2), (0, 4))), ((0, 4), (4, 0)))
        self.assertEqual(useful(((0, 0), (0, -1), (-1, 0))), ((0, 0),))

    def test_useful_rows_are_worth_the_same_and_no_fewer_are(self):
        for menu in MENUS[::3]:
            rows = useful(menu)
            self.assertEqual(compare(menu, rows), ("alike",))
            for at in range(len(rows)):
                fewer = rows[:at] + rows[at + 1:]
                if fewer:
                    self.assertEqual(compare(menu, fewer)[0], "apart")

    def test_somewhat_beyond_the_limits(self):
        rows = tuple((-k * k, 2 * k) for k in range(12))
        self.assertEqual(useful(rows), tuple(sorted(rows)))
        self.assertEqual(useful(((2 * MARK, 0, 0, 0, 0), (0, 0, 0, 0, 1))), ((0, 0, 0, 0, 1), (2 * MARK, 0, 0, 0, 0)))


class Comparing(Holding):
    def test_what_is_returned_is_right_and_holds(self):
        seen = []
        for one, other in PAIRS:
            value = compare(one, other)
            self.assertIs(compare_holds(one, other, value), True)
            self.assertEqual(compare(tuple(one), tuple(other)), value)
            alike = useful(one) == useful(other)
            self.assertEqual(value == ("alike",), alike, (one, other))
            self.assertTrue(alike or judges.apart_right(one, other, value))
            self.assertIs(compare_holds(one, other, ("alike",)), alike)
            seen.append(alike)
        self.assertGreater(min(seen.count(True), seen.count(False)), 50)

    def test_alike_menus_are_worth_the_same_at_small_beliefs(self):
        for one, other in PAIRS[:150]:
            for belief in drawn.grid(len(one[0]), 2):
                apart = judges.lead(one, other, belief) != 0
                self.assertIs(compare_holds(one, other, ("apart", belief)), apart)
                self.assertTrue(compare(one, other)[0] == "apart" or not apart)

    def test_rows_that_are_not_useful_do_not_matter(self):
        self.assertEqual(compare(N, ((0, 2), (2, 0))), ("alike",))
        self.assertEqual(compare(M, ((0, 3), (3, 0), (2, 2), (2, 2), (1, 1))), ("alike",))
        self.assertEqual(compare(((3, 3),) * 8, ((3, 3),)), ("alike",))
        self.assertEqual(compare(M, ((3, 0), (0, 3)))[0], "apart")
        self.assertEqual(compare(((3, 0), (0, 3)), M)[0], "apart")

    def test_near_values_are_judged_as_the_document_says(self):
        said = []
        for one, other in PAIRS[::4]:
            value = compare(one, other)
            alike = value == ("alike",)
            said += self.check_others(
                lambda changed: compare_holds(one, other, changed),
                lambda changed: (alike and changed == ("alike",)) or judges.apart_right(one, other, changed), value,
            )
        self.assertEqual(set(said), {True, False})

    def test_any_value(self):
        for one, other in ((M, N), (N, ((0, 2), (2, 0))), (M, M)):
            alike = one == M == other or other == ((0, 2), (2, 0))
            self.check_odd(
                lambda value: compare_holds(one, other, value),
                lambda value: (alike and value == ("alike",)) or judges.apart_right(one, other, value), "apart", "alike",
            )
            for value in ("alike", ["alike"], ("alike", None), ("alike", "alike"), (("alike",),), ("apart",)):
                self.assertIs(compare_holds(one, other, value), False)

    def test_numbers_of_any_size(self):
        self.assertIs(compare_holds(M, ((3, 0), (0, 3)), ("apart", (2 * HUGE, HUGE + 1))), True)
        self.assertIs(compare_holds(M, ((3, 0), (0, 3)), ("apart", (2 * HUGE + 1, HUGE))), False)
        self.assertIs(compare_holds(M, ((3, 0), (0, 3)), ("apart", (HUGE, HUGE))), False)


class Under(Holding):
    def test_what_is_returned_is_right_and_holds(self):
        seen = []
        for one, other in PAIRS:
            value = under(one, other)
            self.assertTrue(judges.under_right(one, other, value), (one, other, value))
            self.assertIs(under_holds(one, other, value), True)
            self.assertEqual(under(tuple(one), tuple(other)), value)
            seen.append(value[0])
        self.assertGreater(min(seen.count("above"), seen.count("under")), 50)

    def test_above_at_small_beliefs(self):
        for one, other in PAIRS[:150]:
            for belief in drawn.grid(len(one[0]), 2):
                above = judges.lead(one, other, belief) > 0
                self.assertIs(under_holds(one, other, ("above", belief)), above)
                self.assertTrue(under(one, other)[0] == "above" or not above)

    def test_menus_are_alike_if_each_is_under_the_other_one(self):
        for one, other in PAIRS:
            both = under(one, other)[0] == under(other, one)[0] == "under"
            self.assertEqual(both, compare(one, other) == ("alike",))

    def test_papers_are_weights_of_words_of_the_other_menu(self):
        ends = ((4, 0), (0, 4))
        self.assertEqual(under(((2, 2), (0, 0)), ends)[0], "under")
        self.assertEqual(under(((2, 3),), ends)[0], "above")
        self.assertIs(under_holds(((2, 2),), ends, ("under", (((0, 3), (1, 3)),))), True)
        self.assertIs(under_holds(((2, 2),), ends, ("under", (((0, 3), (1, 4)),))), False)
        self.assertIs(under_holds(((2, 2),), ends, ("under", ((0, 1), (1, 1)))), False)
        self.assertIs(under_holds(((2, 2), (4, 0)), ends, ("under", (((0, 1), (1, 1)),))), False)
        self.assertIs(under_holds(((2, 2),), ends, ("under", (((0, 1), (1, 1)), ((0, 1),)))), False)
        self.assertIs(under_holds(ends + ((2, 2),), ends, ("under", (((0, 1),), ((1, 1),), ((0, 1), (2, 1))))), False)

    def test_worth_the_same_is_not_above(self):
        self.assertIs(under_holds(M, M, ("above", (1, 1))), False)
        self.assertIs(under_holds(M, N, ("above", (1, 1))), True)
        self.assertIs(under_holds(N, M, ("above", (1, 1))), False)

    def test_near_values_are_judged_as_the_document_says(self):
        said = []
        for one, other in PAIRS[::4]:
            value = under(one, other)
            said += self.check_others(
                lambda changed: under_holds(one, other, changed),
                lambda changed: judges.under_right(one, other, changed), value,
            )
        self.assertEqual(set(said), {True, False})

    def test_any_value(self):
        for one, other in ((M, N), (N, M), (M, M), (((0, 0),), ((0, 0),))):
            self.check_odd(
                lambda value: under_holds(one, other, value),
                lambda value: judges.under_right(one, other, value), "above", "under",
            )
            for papers in (((0, 1),), [((0, 1),)], ([(0, 1)],), (((0, 1),),), (((0, 1),), None), ((), ()), ((), (), ())):
                value = ("under", papers)
                self.assertIs(under_holds(one, other, value), judges.under_right(one, other, value))

    def test_numbers_of_any_size(self):
        self.assertIs(under_holds(((2, 2),), ((4, 0), (0, 4)), ("under", (((0, HUGE), (1, HUGE)),))), True)
        self.assertIs(under_holds(((2, 2),), ((4, 0), (0, 4)), ("under", (((0, HUGE), (1, HUGE + 1)),))), False)
        self.assertIs(under_holds(M, ((3, 0), (0, 3)), ("above", (2 * HUGE - 1, HUGE))), True)
        self.assertIs(under_holds(M, ((3, 0), (0, 3)), ("above", (2 * HUGE + 1, HUGE))), False)


class Shapes(Refusing):
    def test_unlike_numbers_of_marks(self):
        for one, other in (((M), ((1, 2, 3),)), (((1, 2, 3, 4),), M), (((1, 2, 3),) * 8, ((1, 2, 3, 4),))):
            self.assert_unlike(compare, one, other)
            self.assert_unlike(under, one, other)
            for value in (None, ("alike",), ("apart", (1, 1)), ("above", (1, 0)), ("under", ())):
                self.assert_unlike(compare_holds, one, other, value)
                self.assert_unlike(under_holds, one, other, value)

    def test_unlike_numbers_of_rows_are_no_error(self):
        self.assertEqual(compare(((1, 2),), ((1, 2),) * 8), ("alike",))
        self.assertEqual(under(((1, 2),) * 8, ((1, 2),)), ("under", (((0, 1),),) * 8))

    def test_weights_may_be_multiplied(self):
        rng = random.Random(4)
        for menu, word in words_of(MENUS[::2]):
            for value, holds in ((stand(menu, word), stand_holds), (reach(menu, word), reach_holds)):
                if value[0] in ("shut", "never"):
                    factor = rng.choice((2, 10 ** 40, HUGE))
                    self.assertIs(holds(menu, word, (value[0], scaled(value[1], factor))), True)

    def test_never_both(self):
        for menu in drawn.SPECIAL_MENUS:
            weights = list(itertools.product(range(3), repeat=min(len(menu), 4)))
            papers = [tuple((word, count) for word, count in enumerate(counts) if count) for counts in weights]
            for word in range(len(menu)):
                shut = any(stand_holds(menu, word, ("shut", paper)) for paper in papers)
                never = any(reach_holds(menu, word, ("never", paper)) for paper in papers)
                self.assertFalse(shut and stand(menu, word)[0] == "alone")
                self.assertFalse(never and reach(menu, word)[0] == "best")

    def test_somewhat_beyond_the_limits(self):
        menu = tuple(tuple(2 * MARK if at == word else 0 for at in range(5)) for word in range(5)) + ((1,) * 5,) * 5
        self.assertEqual([stand(menu, word)[0] for word in range(10)], ["alone"] * 5 + ["shut"] * 5)
        self.assertEqual([reach(menu, word)[0] for word in range(10)], ["best"] * 5 + ["never"] * 5)
        for word in range(10):
            self.assertIs(stand_holds(menu, word, stand(menu, word)), True)
            self.assertIs(reach_holds(menu, word, reach(menu, word)), True)
        self.assertEqual(compare(menu, menu[:6]), ("alike",))
        self.assertIs(under_holds(menu, menu[:5], under(menu, menu[:5])), True)


if __name__ == "__main__":
    unittest.main()
