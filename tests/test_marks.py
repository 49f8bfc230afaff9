"""[E3] (rounds), [E4], [A2] (e), (g): rounds of preferences, and books that come of marks or of none."""

import copy
import itertools
import random
import unittest
from fractions import Fraction

import drawn
import judges
from drawn import book_of_rows, word_pairs
from frankmarks.pairs import book_of, find_marks, find_round, freedom, is_book, marks_holds, order_at, round_holds
from judges import independent, preference, shape
from odd_values import ODD_VALUES

BOOKS = drawn.SPECIAL_BOOKS + tuple(drawn.books(20, 450))
M = ((3, 0), (2, 2), (0, 3))
BM = ((0, 1, (1, -2)), (0, 2, (1, -1)), (1, 2, (2, -1)))
R = drawn.EXAMPLE_R
W = drawn.EXAMPLE_W
HUGE = 10 ** 5000


def turning_beliefs(book):
    """For two answers: all beliefs at which a border turns, one between any two of them, and the ends."""
    shares = {Fraction(0), Fraction(1)}
    for _, _, (one, other) in book:
        if one != other and 0 <= Fraction(-other, one - other) <= 1:
            shares.add(Fraction(-other, one - other))
    shares = sorted(shares)
    shares += [(low + high) / 2 for low, high in zip(shares, shares[1:])]
    return [(share.numerator, share.denominator - share.numerator) for share in shares]


class Rounds(unittest.TestCase):
    def test_what_is_returned_is_right_and_holds(self):
        seen = set()
        for book in BOOKS:
            value = find_round(book)
            if value is not None:
                self.assertTrue(judges.round_right(book, value), (book, value))
                self.assertIs(round_holds(book, value), True)
                self.assertEqual(order_at(book, value[0])[0], "round")
            self.assertEqual(find_round(tuple(tuple(triple) for triple in book)), value)
            seen.add((shape(book)[0], value is None))
        self.assertEqual(len(seen), 9)

    def test_no_round_is_left_out_at_small_beliefs(self):
        for book in BOOKS:
            if find_round(book) is None:
                words, answers = shape(book)
                for belief in drawn.grid(answers, 2):
                    self.assertEqual(order_at(book, belief)[0], "order")
                    for three in itertools.permutations(range(words), 3):
                        self.assertIs(round_holds(book, (belief,) + three), False)

    def test_no_round_is_left_out_for_two_answers(self):
        seen = set()
        for book in BOOKS:
            words, answers = shape(book)
            if answers == 2:
                expected = any(
                    not judges.in_order(book, three, belief) for belief in turning_beliefs(book)
                    for three in itertools.combinations(range(words), 3)
                )
                self.assertEqual(find_round(book) is not None, expected, book)
                seen.add(expected)
        self.assertEqual(seen, {True, False})

    def test_rounds_at_one_belief_alone(self):
        self.assertEqual(find_round(drawn.ROUND_AT_ONE_BELIEF)[0], (1, 1))
        self.assertEqual(find_round(drawn.ROUND_AT_A_SURE_BELIEF)[0], (1, 0))
        self.assertEqual(find_round(drawn.ROUND_AT_THE_LAST_ANSWER)[0], (0, 0, 1))
        far = 10 ** 60 + 7
        book = ((0, 1, (far, 1 - far)), (0, 2, (-1, -1)), (1, 2, (-far, far - 1)))
        self.assertEqual(find_round(book)[0], (far - 1, far))

    def test_rounds_of_each_turn_and_of_the_last_words(self):
        for border, sign in (((1, 1), 1), ((-1, -1), -1)):
            book = ((0, 1, border), (0, 2, tuple(-item for item in border)), (1, 2, border))
            self.assertIs(round_holds(book, ((1, 1), 0, 1, 2)), sign > 0)
            self.assertIs(round_holds(book, ((1, 1), 0, 2, 1)), sign < 0)
            self.assertIs(round_holds(book, find_round(book)), True)
        last = tuple((i, j, (-1, -1, -1) if (i, j) == (3, 5) else (1, 1, 1)) for i, j in word_pairs(6))
        self.assertEqual(sorted(find_round(last)[1:]), [3, 4, 5])

    def test_the_book_of_a_menu_has_none(self):
        for menu in drawn.menus(21, 200):
            if 2 <= len(menu) <= 6:
                self.assertIsNone(find_round(book_of(menu)))

    def test_no_round_and_yet_no_marks(self):
        self.assertIsNone(find_round(W))
        self.assertEqual(find_marks(W)[0], "balance")

    def test_even_words_go_round_only_if_one_is_preferred(self):
        even = tuple((i, j, (0, 0)) for i, j in word_pairs(3))
        self.assertIsNone(find_round(even))
        self.assertIs(round_holds(even, ((1, 1), 0, 1, 2)), False)
        one_leans = even[:2] + ((1, 2, (0, 1)),)
        self.assertIs(round_holds(one_leans, ((0, 1), 0, 1, 2)), True)
        self.assertIs(round_holds(one_leans, ((0, 1), 1, 2, 0)), True)
        self.assertIs(round_holds(one_leans, ((0, 1), 0, 2, 1)), False)
        self.assertIs(round_holds(one_leans, ((1, 0), 0, 1, 2)), False)

    def test_near_values_are_judged_as_the_document_says(self):
        said = []
        for book in BOOKS[:120]:
            value = find_round(book)
            if value is None:
                value = ((1,) * shape(book)[1], 0, 1, 2)
            for changed in drawn.otherwise(value):
                right = judges.round_right(book, changed)
                self.assertIs(round_holds(book, changed), right, (book, changed))
                said.append(right)
        self.assertEqual(set(said), {True, False})

    def test_any_value(self):
        for book in (R, BM, W, ((0, 1, (1, -1)),)):
            for odd in ODD_VALUES + ((1, 0), ((1, 0), 0, 1), ((1, 0), 0, 1, 2, 0), ((2, 2), 0, 1, 2), [(1, 0), 0, 1, 2]):
                for value in (odd, (odd, 0, 1, 2), ((1, 0), odd, 1, 2), ((1, 0), 0, odd, 2), ((1, 0), 0, 1, odd)):
                    kept = copy.deepcopy(value)
                    self.assertIs(round_holds(book, value), judges.round_right(book, value))
                    self.assertEqual(value, kept)
        for value in (((1, 0), 0, 0, 1), ((1, 0), 0, 1, 1), ((1, 0), False, True, 2), ((1, 0), 1, 2, 3), ((1, 0), -3, 1, 2)):
            self.assertIs(round_holds(R, value), False)

    def test_beliefs_of_any_size(self):
        self.assertIs(round_holds(R, ((HUGE + 1, HUGE), 0, 1, 2)), True)
        self.assertIs(round_holds(R, ((HUGE, HUGE + 1), 0, 1, 2)), False)
        self.assertIs(round_holds(R, ((HUGE, HUGE), 0, 1, 2)), False)


class Marks(unittest.TestCase):
    def test_what_is_returned_is_right_and_holds(self):
        seen = set()
        for book in BOOKS:
            value = find_marks(book)
            self.assertTrue(judges.marks_right(book, value), (book, value))
            self.assertIs(marks_holds(book, value), True)
            self.assertEqual(find_marks(tuple(tuple(triple) for triple in book)), value)
            seen.add((shape(book), value[0]))
        # Books for two words always have marks.
        self.assertEqual(len(seen), 3 * (2 * 5 - 1))

    def test_the_book_of_a_menu_has_marks(self):
        for menu in drawn.menus(22, 240):
            if 2 <= len(menu) <= 6:
                book = book_of(menu)
                kind, rows = find_marks(book)
                self.assertEqual(kind, "marks")
                self.assertEqual(book_of_rows(rows), book)
                self.assertIs(marks_holds(book, ("marks", menu)), True)

    def test_a_round_leaves_no_marks(self):
        for book in BOOKS:
            if find_round(book) is not None:
                self.assertEqual(find_marks(book)[0], "balance")

    def test_books_of_one_kind_of_border(self):
        for words in range(2, 7):
            for border in ((0, 0, 0), (1, 1, 1), (0, -1, 0), (3, -2, 0)):
                book = tuple((i, j, border) for i, j in word_pairs(words))
                self.assertEqual(find_marks(book)[0], "marks")
                self.assertIs(marks_holds(book, find_marks(book)), True)
                if words > 2 and any(border):
                    turned = book[:1] + ((0, 2, tuple(-item for item in border)),) + book[2:]
                    self.assertEqual(find_marks(turned)[0], "balance")

    def test_borders_with_items_of_many_digits(self):
        rng = random.Random(23)
        for digits in (30, 400):
            for words, answers in ((3, 3), (4, 3), (6, 4)):
                # The marks of each row have the sum 0, so that all borders cut.
                rows = [[rng.randint(-10 ** digits, 10 ** digits) for _ in range(answers - 1)] for _ in range(words)]
                rows = [(*row, -sum(row)) for row in rows]
                book = book_of_rows(rows)
                self.assertTrue(is_book(book))
                self.assertIs(marks_holds(book, find_marks(book)), True)
                self.assertEqual(find_marks(book)[0], "marks")
                self.assertIs(marks_holds(book, ("marks", tuple(rows))), True)
                bent = book[:-1] + ((words - 2, words - 1, drawn.cutting(rng, answers, 10 ** digits)),)
                self.assertEqual(find_marks(bent)[0], "balance")
                self.assertIs(marks_holds(bent, find_marks(bent)), True)
                self.assertIs(marks_holds(bent, ("marks", tuple(rows))), False)

    def test_rows_moved_and_multiplied_have_the_same_book(self):
        for book in BOOKS[:200]:
            kind, rows = find_marks(book)
            if kind == "marks":
                moved = tuple(tuple(HUGE * mark + at for at, mark in enumerate(row)) for row in rows)
                self.assertIs(marks_holds(book, ("marks", moved)), True)
                if any(any(row) for row in rows):
                    turned = tuple(tuple(-mark for mark in row) for row in rows)
                    self.assertIs(marks_holds(book, ("marks", turned)), False)
            else:
                many = tuple((j, k, tuple(HUGE * item for item in vector)) for j, k, vector in rows)
                self.assertIs(marks_holds(book, ("balance", many)), True)
                turned = tuple((j, k, tuple(-item for item in vector)) for j, k, vector in rows)
                self.assertIs(marks_holds(book, ("balance", turned)), judges.marks_right(book, ("balance", turned)))

    def test_never_both(self):
        vectors = list(itertools.product((-1, 0, 1), repeat=2))
        for menu in (M, ((1, 0), (0, 1), (0, 0)), ((0, 0), (0, 0), (0, 0)), ((2, 2), (1, 1), (0, 0))):
            for vector in vectors:
                self.assertIs(marks_holds(book_of(menu), ("balance", ((1, 2, vector),))), False)
        self.assertTrue(any(marks_holds(R, ("balance", ((1, 2, vector),))) for vector in vectors))

    def test_near_values_are_judged_as_the_document_says(self):
        said = set()
        for book in drawn.SPECIAL_BOOKS + BOOKS[-90:]:
            value = find_marks(book)
            for changed in drawn.otherwise(value):
                right = judges.marks_right(book, changed)
                self.assertIs(marks_holds(book, changed), right, (book, changed))
                said.add((value[0], right))
        self.assertEqual(len(said), 4)

    def test_any_value(self):
        odd_parts = ODD_VALUES + (M, BM, [(0, 0)] * 3, ((0, 0),) * 2, ((0, 0),) * 4, ((0, 0, 0),) * 3, ((1, 2, (0, 0)),))
        for book in (BM, R, W, ((0, 1, (1, -1)),), tuple((i, j, (0, 0)) for i, j in word_pairs(3))):
            for odd in odd_parts:
                for value in (odd, ("marks", odd), ("balance", odd), ("marks", (odd,) * 3), ("balance", (odd,)),
                              ("balance", ((1, 2, odd),)), ("balance", ((1, odd, (1, -1)),)),
                              ("balance", ((odd, 2, (1, -1)),)), ("marks", (odd, (0, 0), (0, 0))), (odd, M),
                              ("marks", odd, odd), ("round", odd)):
                    kept = copy.deepcopy(value)
                    self.assertIs(marks_holds(book, value), judges.marks_right(book, value), value)
                    self.assertEqual(value, kept)

    def test_triples_are_ascending_and_of_unlike_words(self):
        good = ((1, 2, (-6, -6)), (1, 3, (3, 5)), (2, 3, (-1, -3)))
        self.assertIs(marks_holds(W, ("balance", good)), True)
        for triples in (good[::-1], good[:1] + good, good + good[2:], good[:2] + ((3, 2, (1, 3)),), (),
                        ((0, 1, (0, 0)),) + good, good + ((2, 4, (0, 0)),), good + ((3, 3, (0, 0)),), list(good),
                        good[:2], good[1:], ((1, 2, (-3, -3)), (1, 2, (-3, -3))) + good[1:],
                        ((True, 2, (-6, -6)),) + good[1:], good[:2] + ((2, 3, (-1, -3, 0)),), good[:2] + ((2, 3, [-1, -3]),)):
            self.assertIs(marks_holds(W, ("balance", triples)), False)
        self.assertIs(marks_holds(R, ("balance", ((1, 2, (1, -1)),))), True)

    def test_amounts_are_from_0_on_and_one_above_0(self):
        three = ((0, 1, (0, 0)), (0, 2, (0, 0)), (1, 2, (1, 1)))
        self.assertIs(marks_holds(three, ("balance", ((1, 2, (0, 1)),))), True)
        self.assertIs(marks_holds(three, ("balance", ((1, 2, (0, 0)),))), False)
        self.assertIs(marks_holds(three, ("balance", ((1, 2, (-1, 2)),))), False)
        cuts = ((0, 1, (0, 0)), (0, 2, (0, 0)), (1, 2, (1, -1)))
        self.assertIs(marks_holds(cuts, ("balance", ((1, 2, (-1, -2)),))), True)
        self.assertIs(marks_holds(cuts, ("balance", ((1, 2, (2, 2)),))), False)
        self.assertIs(marks_holds(cuts, ("balance", ((1, 2, (1, 2)),))), False)


def plain_freedom(book):
    """The number of free marks by the equations that the borders ask of the rows, the first one all 0."""
    words, answers = shape(book)
    equations = []

    def equation(one, other, factors):
        line = [0] * (words * answers)
        for at, factor in factors:
            line[one * answers + at] += factor
            line[other * answers + at] -= factor
        equations.append(line[answers:])

    for one, other, border in book:
        if min(border) < 0 < max(border):
            for a, b in itertools.combinations(range(answers), 2):
                equation(one, other, ((a, border[b]), (b, -border[a])))
        else:
            for at, item in enumerate(border):
                if item == 0:
                    equation(one, other, ((at, 1),))
    return (words - 1) * answers - independent(equations)


class Freedom(unittest.TestCase):
    def test_as_many_as_the_borders_leave_free(self):
        seen = set()
        for book in BOOKS:
            value = freedom(book)
            if find_marks(book)[0] == "balance":
                self.assertIsNone(value)
            else:
                self.assertEqual((value, type(value)), (plain_freedom(book), int), book)
            seen.add(value)
        self.assertTrue({None, 0, 1, 2, 3} <= seen)

    def test_some_books(self):
        for words in range(2, 7):
            for answers in (2, 3, 4):
                pairs = word_pairs(words)
                self.assertEqual(freedom(tuple((i, j, (0,) * answers) for i, j in pairs)), 0)
                self.assertEqual(freedom(tuple((i, j, (1,) * answers) for i, j in pairs)), (words - 1) * answers)
                self.assertEqual(freedom(tuple((i, j, (-1,) + (0,) * (answers - 1)) for i, j in pairs)), words - 1)
                self.assertEqual(freedom(tuple((i, j, (1, -1) + (0,) * (answers - 2)) for i, j in pairs)), words - 1)
        self.assertIsNone(freedom(W))
        self.assertIsNone(freedom(R))
        self.assertEqual(freedom(BM), 1)


class Preferences(unittest.TestCase):
    def test_marks_prefer_as_their_book_does(self):
        for book in BOOKS[::3]:
            kind, rows = find_marks(book)
            if kind == "marks":
                words, answers = shape(book)
                for belief in drawn.grid(answers, 2):
                    gains = judges.averages(rows, belief)
                    for one, other in word_pairs(words):
                        total = preference(book, one, other, belief)
                        self.assertEqual((total > 0) - (total < 0),
                                         (gains[one] > gains[other]) - (gains[one] < gains[other]))


if __name__ == "__main__":
    unittest.main()
