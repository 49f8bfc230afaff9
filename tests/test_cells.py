"""[B1], [B2], [B3]: corners, borders, kinds and middles of cells."""

import copy
import functools
import itertools
import math
import unittest

import drawn
from frankmarks.cells import border, cell_kind, corners, inner, lone_belief, parted, share_lone_belief
from frankmarks.errors import BadBelief, NoCell, NoWord
from judges import Refusing, averages, bad_beliefs, bad_words, belief_right, independent

MENUS = drawn.SPECIAL_MENUS + tuple(drawn.menus(1, 192))
U = ((4, 0), (0, 4), (3, 3), (1, 1))
NEVER = ((2, 0), (0, 2), (1, 1), (1, 0))


def dot(row, belief):
    return sum(item * share for item, share in zip(row, belief))


def minor(rows, places):
    """The determinant of the rows at these places."""
    if not rows:
        return 1
    return sum(
        (-1) ** number * rows[0][at] * minor(rows[1:], places[:number] + places[number + 1:])
        for number, at in enumerate(places)
    )


def crossing(rows, answers):
    """The vector at right angles to one row less than there are answers."""
    places = list(range(answers))
    return [(-1) ** at * minor(rows, places[:at] + places[at + 1:]) for at in places]


@functools.lru_cache(None)
def plain_corners(answers, rows):
    """The corners by their other description: there as many conditions have no room as fix one belief."""
    units = [tuple(int(at == place) for at in range(answers)) for place in range(answers)]
    conditions = sorted(set(units) | {row for row in rows if any(row)})
    found = set()
    for chosen in itertools.combinations(conditions, answers - 1):
        line = crossing(chosen, answers)
        if not any(line):
            continue
        if min(line) < 0:
            line = [-item for item in line]
        if min(line) >= 0 and all(dot(row, line) >= 0 for row in conditions):
            found.add(tuple(item // math.gcd(*line) for item in line))
    return tuple(sorted(found))


def leads(menu, word):
    return tuple(tuple(a - b for a, b in zip(menu[word], row)) for row in menu)


class Corners(Refusing):
    def test_corners_are_those_where_conditions_meet(self):
        for menu in MENUS:
            for word in range(len(menu)):
                found = corners(menu, word)
                self.assertEqual(found, plain_corners(len(menu[0]), leads(menu, word)), (menu, word))
                self.assertIs(type(found), tuple)

    def test_corners_are_ascending_beliefs_at_which_the_word_is_best(self):
        for menu in MENUS:
            for word in range(len(menu)):
                found = corners(menu, word)
                self.assertEqual(list(found), sorted(set(found)))
                for belief in found:
                    self.assertTrue(belief_right(len(menu[0]), belief))
                    worths = averages(menu, belief)
                    self.assertEqual(worths[word], max(worths))

    def test_no_corner_is_a_sum_of_two_beliefs_of_the_cell(self):
        for menu in drawn.SPECIAL_MENUS:
            answers = len(menu[0])
            small = drawn.grid(answers, 3)
            for word in range(len(menu)):
                cell = [belief for belief in small if max(averages(menu, belief)) == averages(menu, belief)[word]]
                sums = {
                    drawn.prime([a * one + b * other for one, other in zip(p, q)])
                    for p, q in itertools.combinations(cell, 2) for a in (1, 2) for b in (1, 2)
                }
                self.assertFalse(sums & set(corners(menu, word)))
                # A belief with small items that is no such sum of any two is a corner, as [B2] says.
                for belief in cell:
                    if belief not in corners(menu, word):
                        self.assertTrue(self.is_inside(menu, word, belief))

    def is_inside(self, menu, word, belief):
        # Beside the belief there are two others of the cell, on both sides of it.
        rows = [row for row in leads(menu, word) if any(row)]
        units = [tuple(int(at == place) for at in range(len(belief))) for place in range(len(belief))]
        tight = [row for row in rows + units if dot(row, belief) == 0]
        return independent(tight) < len(belief) - 1

    def test_one_row_and_equal_rows_have_the_whole(self):
        self.assertEqual(corners(((5, -3),), 0), ((0, 1), (1, 0)))
        for word in range(8):
            self.assertEqual(corners(((1, 2, 3, 4),) * 8, word),
                             ((0, 0, 0, 1), (0, 0, 1, 0), (0, 1, 0, 0), (1, 0, 0, 0)))

    def test_marks_at_the_limits(self):
        mark = drawn.MARK
        menu = ((mark, -mark), (-mark, mark), (0, 1))
        self.assertEqual(corners(menu, 2), ((mark - 1, mark), (mark + 1, mark)))
        self.assertEqual(corners(((mark, 0), (0, 1)), 0), ((1, 0), (1, mark)))
        self.assertEqual(corners(((mark, 0), (0, 1)), 1), ((0, 1), (1, mark)))

    def test_a_word_that_is_best_nowhere_has_none(self):
        self.assertEqual(corners(NEVER, 3), ())
        self.assertEqual(corners(((0, 0), (1, 1)), 0), ())

    def test_somewhat_beyond_the_limits(self):
        menu = ((1, 0, 0, 0, 0), (0, 1, 0, 0, 0)) + ((0, 0, 2 * drawn.MARK, 0, 0),) * 8
        self.assertEqual(corners(menu, 9), plain_corners(5, leads(menu, 9)))
        self.assertEqual(cell_kind(menu, 0), "wide")

    def test_no_word(self):
        for word in bad_words(4):
            self.assert_no_word(word, corners, U, word)


class Borders(Refusing):
    def test_borders_are_where_both_are_best(self):
        for menu in MENUS[::7] + drawn.SPECIAL_MENUS:
            for one, other in itertools.combinations_with_replacement(range(len(menu)), 2):
                rows = leads(menu, one) + leads(menu, other)
                self.assertEqual(border(menu, one, other), plain_corners(len(menu[0]), rows), (menu, one, other))

    def test_the_border_of_a_word_and_itself_is_its_cell(self):
        for menu in MENUS:
            for word in range(len(menu)):
                self.assertEqual(border(menu, word, word), corners(menu, word))

    def test_borders_are_tuples_and_the_same_from_both_sides(self):
        for menu in MENUS[::5]:
            for one, other in itertools.combinations(range(len(menu)), 2):
                self.assertIs(type(border(menu, one, other)), tuple)
                self.assertEqual(border(menu, one, other), border(menu, other, one))

    def test_no_word_the_first_one_first(self):
        for word in bad_words(4):
            self.assert_no_word(word, border, U, word, 0)
            self.assert_no_word(word, border, U, 0, word)
            self.assert_no_word(word, border, U, word, (99,))
            self.assert_no_word(word, border, NEVER, 3, word)


class Kinds(Refusing):
    def test_kinds_are_told_by_the_determinants_of_corners(self):
        seen = set()
        for menu in MENUS:
            answers = len(menu[0])
            for word in range(len(menu)):
                found = corners(menu, word)
                wide = any(minor(rows, list(range(answers))) for rows in itertools.combinations(found, answers))
                expected = "wide" if wide else "thin" if found else "none"
                self.assertEqual(cell_kind(menu, word), expected)
                seen.add((answers, expected))
        self.assertEqual(len(seen), 9)

    def test_each_kind(self):
        self.assertEqual([cell_kind(NEVER, word) for word in range(4)], ["wide", "wide", "thin", "none"])
        self.assertEqual([cell_kind(((1, 1), (1, 1)), word) for word in range(2)], ["wide", "wide"])
        self.assertEqual(cell_kind(((0, 0, 1), (0, 0, 0)), 1), "thin")

    def test_inner_is_the_primitive_of_the_sum(self):
        for menu in MENUS:
            for word in range(len(menu)):
                found = corners(menu, word)
                if found:
                    sums = [sum(items) for items in zip(*found)]
                    self.assertEqual(inner(menu, word), drawn.prime(sums))
                    self.assertIs(type(inner(menu, word)), tuple)

    def test_the_only_best_word_is_so_at_inner_and_has_a_wide_cell(self):
        lone = 0
        for menu in MENUS:
            for belief in drawn.grid(len(menu[0]), 2):
                worths = averages(menu, belief)
                if worths.count(max(worths)) == 1:
                    word = worths.index(max(worths))
                    there = averages(menu, inner(menu, word))
                    self.assertEqual((there.count(max(there)), there.index(max(there))), (1, word))
                    self.assertEqual(cell_kind(menu, word), "wide")
                    lone += 1
        self.assertGreater(lone, 100)

    def test_no_word_and_no_cell(self):
        for word in bad_words(4):
            self.assert_no_word(word, cell_kind, U, word)
            self.assert_no_word(word, inner, NEVER, word)
        for menu, word in ((NEVER, 3), (((0, 0), (1, 1)), 0), (((1, 1), (0, 0)), 1)):
            with self.assertRaises(NoCell) as caught:
                inner(menu, word)
            self.assertEqual(caught.exception.word, word)
            self.assertIs(type(caught.exception.word), int)


class Parted(Refusing):
    def test_parted_by_the_words_that_are_best(self):
        seen = set()
        for menu in MENUS[::2]:
            beliefs = drawn.grid(len(menu[0]), 2)
            for one, other in zip(beliefs, beliefs[3:] + beliefs[:3]):
                bests = []
                for belief in (one, other):
                    worths = averages(menu, belief)
                    bests.append([worth == max(worths) for worth in worths])
                self.assertIs(parted(menu, one, other), bests[0] != bests[1])
                seen.add(bests[0] != bests[1])
        self.assertEqual(seen, {True, False})

    def test_a_word_more_that_is_best_parts(self):
        self.assertIs(parted(U, (3, 1), (2, 1)), True)
        self.assertIs(parted(U, (2, 1), (3, 1)), True)
        self.assertIs(parted(U, (2, 1), (1, 1)), False)
        self.assertIs(parted(U, (1, 0), (1, 0)), False)

    def test_beliefs_of_any_size(self):
        huge = 10 ** 5000
        self.assertIs(parted(U, (3 * huge, huge + 1), (2, 1)), False)
        self.assertIs(parted(U, (3 * huge + 1, huge), (3 * huge - 1, huge)), True)
        self.assertIs(parted(U, (3 * huge + 1, huge), (1, 0)), False)

    def test_no_belief_the_first_one_first(self):
        for belief in bad_beliefs(2):
            self.assert_bad_belief(belief, parted, U, belief, (1, 1))
            self.assert_bad_belief(belief, parted, U, (1, 1), belief)
            self.assert_bad_belief(belief, parted, U, belief, (99,))


class Untouched(unittest.TestCase):
    def test_what_is_passed_is_never_changed(self):
        for value in ([0, 1], {"0": [1]}, [[1, 2]], ([1], 2)):
            kept = copy.deepcopy(value)
            for call in (
                lambda: corners(U, value), lambda: border(U, 0, value), lambda: inner(U, value),
                lambda: cell_kind(U, value), lambda: parted(U, value, (1, 1)),
            ):
                with self.assertRaises((NoWord, BadBelief)):
                    call()
            self.assertEqual(value, kept)


class LoneBeliefs(unittest.TestCase):
    def test_two_words_that_share_one(self):
        thirds = ((3, 0), (2, 2), (0, 3))
        halves = ((1, 0), (0, 1), (0, -9))
        found = [[share_lone_belief(thirds, word, halves, said) for said in range(3)] for word in range(3)]
        self.assertEqual(found, [[True, False, False], [True, True, False], [False, True, False]])
        turned = [[share_lone_belief(halves, said, thirds, word) for said in range(3)] for word in range(3)]
        self.assertEqual(turned, found)

    def test_a_word_that_has_none_shares_none(self):
        plain = ((0, 0),)
        for menu in drawn.SPECIAL_MENUS:
            if len(menu[0]) == 2:
                for word in range(len(menu)):
                    alone = lone_belief(menu, word) is not None
                    self.assertIs(share_lone_belief(menu, word, plain, 0), alone)
                    self.assertIs(share_lone_belief(plain, 0, menu, word), alone)
                    self.assertIs(share_lone_belief(menu, word, menu, word), alone)


if __name__ == "__main__":
    unittest.main()
