"""[N1]: menus as objects."""

import copy
import itertools
import unittest

import drawn
from drawn import MARK
from frankmarks.benches import Bench, FrankBench
from frankmarks.errors import BadBelief, BadMenu, BadNumber, TooGreat, TooMany, Unlike
from frankmarks.forms import menu_error, worth
from frankmarks.joins import both, either, times
from frankmarks.menus import Menu
from frankmarks.papers import compare, stand, under
from frankmarks.shells import Shell
from frankmarks.texts import menu_text, parse_menu
from judges import Refusing, bad_beliefs, bad_words
from odd_values import ODD_VALUES

U = ((4, 0), (0, 4), (3, 3), (1, 1))
MENUS = drawn.SPECIAL_MENUS + tuple(drawn.menus(21, 96))
PAIRS = drawn.menu_pairs(22, 60) + drawn.bowed_pairs(23, 30)
CHAIN = tuple((16 * k - k * k, -16 * k) for k in range(8))
HUGE = 10 ** 5000


def outcome(call, *arguments):
    """What is returned, or the kind and the fields of the error."""
    try:
        return call(*arguments)
    except (BadNumber, TooGreat, TooMany, Unlike) as error:
        return type(error), vars(error)


class Making(Refusing):
    def test_a_menu_is_kept_as_it_is(self):
        for rows in MENUS:
            menu = Menu(rows)
            self.assertEqual(menu.rows, rows)
            self.assertIs(type(menu.rows), tuple)
            self.assertEqual({type(row) for row in menu.rows}, {tuple})
            self.assertEqual(menu.answers, len(rows[0]))
            self.assertEqual(len(menu), len(rows))

    def test_what_is_no_menu(self):
        wrong = ODD_VALUES + (
            ((1, 2), (3, 4, 5)), ((1, 2), (1, True)), [(1, 2)], ((1, 2),) * 9, ((MARK + 1, 0),), ((1,),), (1, 2),
            "1,2", ([1, 2],), ((1, 2), None), ((1, 2, 3, 4, 5),), ((1, 2), (1, 2), (1, 2, 3), (True, 0)),
        )
        for value in wrong:
            for made in (Menu, Bench, FrankBench):
                with self.assertRaises(BadMenu) as caught:
                    made(value)
                self.assertIs(type(caught.exception), BadMenu)
                self.assertEqual(caught.exception.error, menu_error(value))
                self.assertIsNotNone(caught.exception.error)

    def test_rows_and_answers_can_only_be_read(self):
        menu = Menu(U)
        for name in ("rows", "answers"):
            for change in (lambda: setattr(menu, name, ((9, 9),)), lambda: delattr(menu, name)):
                with self.assertRaises(AttributeError):
                    change()
        with self.assertRaises(TypeError):
            menu[0] = (1, 1)
        with self.assertRaises(TypeError):
            del menu[0]
        self.assertEqual((menu.rows, menu.answers), (U, 2))


class Items(Refusing):
    def test_items_are_rows(self):
        for rows in MENUS:
            menu = Menu(rows)
            self.assertEqual(tuple(menu[word] for word in range(len(rows))), rows)

    def test_no_word(self):
        for rows in (U, ((1, 2),), ((3, 4, 5),) * 8):
            menu = Menu(rows)
            for index in bad_words(len(rows)):
                self.assert_no_word(index, menu.__getitem__, index)
                self.assert_no_word(index, lambda: menu[index])

    def test_rows_are_in_a_menu(self):
        for rows in MENUS:
            menu = Menu(rows)
            for row in rows:
                self.assertIs(tuple(list(row)) in menu, True)
                self.assertIs(row not in menu, False)
                self.assertIs(list(row) in menu, False)
                self.assertIs(row + (0,) in menu, False)
                self.assertIs(row[:-1] in menu, False)
                self.assertIs((row,) in menu, False)

    def test_nothing_else_is_in_a_menu(self):
        menu = Menu(((1, 0), (0, 1), (1, 1)))
        for value in ODD_VALUES + ((0, 0), (True, 0), (1, False), (True, 1), (True, True), [1, 0], "1,0", 0, 1, HUGE,
                                   (1, HUGE), (1, "0"), (1, None), menu.rows, ((1, 0),), {"0": (1, 0)}, -1):
            self.assertIs(value in menu, False, value)
            self.assertIs(value not in menu, True)
        self.assertIs((1, 0) in menu, True)

    def test_no_loop(self):
        menu = Menu(U)
        for loop in (iter, list, tuple, sorted, set, max, dict, enumerate, lambda value: [row for row in value],
                     lambda value: (lambda *rows: rows)(*value), lambda value: list(zip(value))):
            with self.assertRaises(TypeError):
                loop(menu)
        with self.assertRaises(TypeError):
            for _ in menu:
                self.fail()
        with self.assertRaises(TypeError):
            _, _, _, _ = menu


class Answers(Refusing):
    def test_the_text(self):
        for rows in MENUS:
            self.assertEqual(str(Menu(rows)), menu_text(rows))
            self.assertEqual(Menu(parse_menu(str(Menu(rows)))), Menu(rows))

    def test_true_if_each_word_is_alone_somewhere(self):
        found = []
        for rows in MENUS + tuple(pair[0] for pair in PAIRS):
            alone = all(stand(rows, word)[0] == "alone" for word in range(len(rows)))
            self.assertIs(bool(Menu(rows)), alone)
            self.assertEqual(not Menu(rows), not alone)
            found.append((alone, len(rows[0])))
        self.assertEqual(len(set(found)), 6)
        self.assertIs(bool(Menu(((1, 2), (1, 2)))), False)
        self.assertIs(bool(Menu(((0, 0),))), True)

    def test_called_with_a_belief(self):
        for rows in MENUS:
            for belief in drawn.grid(len(rows[0]), 2):
                self.assertEqual(Menu(rows)(belief), worth(rows, belief))
        self.assertEqual(Menu(U)((HUGE, HUGE + 1)), worth(U, (HUGE, HUGE + 1)))

    def test_called_with_what_is_no_belief(self):
        for rows in (U, ((1, 2, 3),), ((1, 2, 3, 4), (0, 0, 0, 0))):
            for value in bad_beliefs(len(rows[0])):
                self.assert_bad_belief(value, Menu(rows), value)

    def test_under_and_alike(self):
        found = []
        for one, other in PAIRS:
            is_under, is_alike = Menu(one).is_under(Menu(other)), Menu(one).is_alike(Menu(other))
            self.assertIs(is_under, under(one, other)[0] == "under")
            self.assertIs(is_alike, compare(one, other) == ("alike",))
            found.append((is_under, is_alike))
        self.assertEqual(set(found), {(True, True), (True, False), (False, False)})
        for one, other in ((U, ((1, 2, 3),)), (((1, 2, 3, 4),), ((1, 2, 3),))):
            self.assert_unlike(Menu(one).is_under, Menu(other))
            self.assert_unlike(Menu(one).is_alike, Menu(other))


class Operators(Refusing):
    def check_same(self, found, expected):
        if isinstance(found, Menu):
            self.assertIs(type(found), Menu)
            found = found.rows
        self.assertEqual(found, expected)

    def test_sums_and_menus_together(self):
        kinds = set()
        for one, other in PAIRS:
            for plain, joined in ((both, lambda a, b: a + b), (either, lambda a, b: a | b)):
                expected = outcome(plain, one, other)
                self.check_same(outcome(joined, Menu(one), Menu(other)), expected)
                self.check_same(outcome(joined, Menu(other), Menu(one)), expected)
                kinds.add((plain, len(expected) if type(expected[0]) is tuple else expected[0]))
        self.assertLessEqual({(either, 8), (either, TooMany), (both, TooMany), (both, 8), (both, TooGreat)}, kinds)

    def test_errors_of_sums_and_menus_together(self):
        for one, other in ((U, ((1, 2, 3),)), (((1, 2, 3),), U)):
            self.assert_unlike(lambda: Menu(one) + Menu(other))
            self.assert_unlike(lambda: Menu(one) | Menu(other))
        for join in (lambda: Menu(CHAIN) + Menu(((0, 0), (16, -16))), lambda: Menu(CHAIN) | Menu(((64, -128),))):
            with self.assertRaises(TooMany) as caught:
                join()
            self.assertEqual(caught.exception.limit, 8)
        with self.assertRaises(TooGreat):
            Menu(((MARK, 0),)) + Menu(((1, 0),))

    def test_multiplied_from_both_sides(self):
        for rows in MENUS:
            for number in (1, 2, 3):
                expected = outcome(times, rows, number)
                self.check_same(outcome(lambda: Menu(rows) * number), expected)
                self.check_same(outcome(lambda: number * Menu(rows)), expected)
        self.assertEqual(Menu(((0, 0),)) * HUGE, Menu(((0, 0),)))
        self.assertEqual(HUGE * Menu(((0, 0),)), Menu(((0, 0),)))

    def test_multiplied_with_what_is_no_number(self):
        menu = Menu(U)
        for value in ODD_VALUES + (0, -1, True, False, None, "2", "ab", (2,), [2], {"2": 2}, -HUGE, ((4, 0), (0, 4))):
            if not (type(value) is int and value > 0):
                self.assert_given(BadNumber, value, lambda: menu * value)
                self.assert_given(BadNumber, value, lambda: value * menu)
        for product in (lambda: menu * MARK, lambda: MARK * menu):
            with self.assertRaises(TooGreat):
                product()

    def test_assigning_operators_make_another_menu(self):
        menu = kept = Menu(((1, 0), (0, 1)))
        menu += menu
        self.assertEqual((menu, kept), (Menu(((0, 2), (2, 0))), Menu(((1, 0), (0, 1)))))
        menu |= kept
        menu *= 2
        self.assertEqual((menu, kept), (Menu(((0, 4), (4, 0))), Menu(((1, 0), (0, 1)))))

    def test_nothing_is_changed(self):
        menu, other = Menu(U), Menu(CHAIN)
        for change in (lambda: menu + other, lambda: menu | other, lambda: menu * 3, lambda: menu * 0, lambda: menu[9],
                       lambda: menu((9, 9)), lambda: menu.is_under(other), lambda: menu + Menu(((1, 2, 3),))):
            try:
                change()
            except (BadNumber, TooMany, Unlike, BadBelief, IndexError, ValueError):
                pass
            self.assertEqual((menu.rows, other.rows, len(menu), str(menu)), (U, CHAIN, 4, menu_text(U)))


class Equal(Refusing):
    def check(self, one, other, equal):
        self.assertIs(one == other, equal)
        self.assertIs(one != other, not equal)
        self.assertIs(other == one, equal)
        self.assertIs(other != one, not equal)

    def test_menus_with_the_same_rows_in_their_order(self):
        for one, other in itertools.combinations(MENUS[:40], 2):
            self.check(Menu(one), Menu(other), one == other)
        for rows in MENUS:
            self.check(Menu(rows), Menu(copy.deepcopy(rows)), True)
            self.check(Menu(rows), Menu(rows[::-1]), rows == rows[::-1])
            if len(rows) < 8:
                self.check(Menu(rows), Menu(rows + rows[:1]), False)

    def test_other_values_are_equal_to_none(self):
        menu = Menu(U)
        for value in ODD_VALUES + (U, list(U), str(menu), 4, None, U[0], Bench(U), FrankBench(U[:3]), Shell(Bench(U))):
            self.check(menu, value, False)
        self.check(Menu(U[:3]), FrankBench(U[:3]), False)
        self.assertIs(menu == menu, True)

    def test_menus_that_are_worth_the_same_need_not_be_equal(self):
        self.check(Menu(U), Menu(U[:3]), False)
        self.check(Menu(U[:1] * 2), Menu(U[:1]), False)

    def test_not_hashed(self):
        for value in (Menu(U), Bench(U), FrankBench(U[:3])):
            with self.assertRaises(TypeError):
                hash(value)

    def test_equal_menus_answer_alike(self):
        for rows in MENUS[::5]:
            one, other = Menu(rows), Menu(tuple(tuple(list(row)) for row in rows))
            self.assertEqual((one.rows, one.answers, len(one), bool(one), str(one)),
                             (other.rows, other.answers, len(other), bool(other), str(other)))
            self.assertEqual(one | other, other | one)


if __name__ == "__main__":
    unittest.main()
