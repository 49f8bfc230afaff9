"""[E1], [E2], [E3] (order_at): books, what they say, and the order at a belief."""

import itertools
import random
import unittest

import drawn
import judges
from drawn import MARK, book_of_rows, word_pairs
from frankmarks.errors import TooFew, TooMany
from frankmarks.pairs import book_error, book_of, is_book, order_at, same_book, says
from judges import Refusing, averages, bad_beliefs, bad_words, preference, shape
from odd_values import ODD_VALUES

BOOKS = drawn.SPECIAL_BOOKS + tuple(drawn.books(10, 300))
M = ((3, 0), (2, 2), (0, 3))
BM = ((0, 1, (1, -2)), (0, 2, (1, -1)), (1, 2, (2, -1)))
R = drawn.EXAMPLE_R
HUGE = 10 ** 5000
NO_BORDERS = (
    None, 1, True, "1,-2", [1, -2], (), (1,), (1, 2, 3, 4, 5), (-1, 1, -1, 1, -1), (2, -4), (0, 2), (-2, 0), (2, 2),
    (1, 2), (-1, -3), (0, 0, 5), (HUGE, 0), (HUGE, -HUGE), (1, True), (True, True), (False, False), (True, -1),
    (0, False), (1, "-1"), (1, None), (1, (-1,)), ((1, -1), (1, -1)), {"0": 1, "1": -1}, (6, -9, 3), (0, 2, -2), (1, 1, 2),
)
BORDERS = (
    (0, 0), (0, 0, 0, 0), (1, -1), (-1, 1), (0, 1), (1, 0), (-1, 0), (1, 1), (-1, -1), (2, -3), (0, 2, -1), (1, 1, 0, 1),
    (-1, 0, 0, -1), (HUGE, 1 - HUGE), (6, -10, 15, 0), (0, 0, -1, 1),
)


def with_border(border, words):
    return tuple((i, j, border) for i, j in word_pairs(words))


def put(book, at, item):
    return book[:at] + (item,) + book[at + 1:]


class BookErrors(Refusing):
    def test_books_have_no_error(self):
        for book in BOOKS:
            self.assertIsNone(book_error(book))
            self.assertIs(is_book(book), True)
        for border in BORDERS:
            for words in range(2, 7):
                self.assertIsNone(book_error(with_border(border, words)))

    def test_books_have_as_many_items_as_pairs_of_words(self):
        for many in range(30):
            triples = with_border((1, -1), 9)[:many]
            if many not in (1, 3, 6, 10, 15):
                self.assertEqual(book_error(triples), (None, "book"))
                self.assertIs(is_book(triples), False)
        self.assertEqual(book_error(with_border((1, -1), 7)), (None, "book"))

    def test_what_is_no_tuple_is_no_book(self):
        for value in ODD_VALUES + ([], list(BM), {"0": BM[0]}, "book", None):
            error = book_error(value)
            self.assertIs(is_book(value), False)
            if type(value) is not tuple or len(value) not in (1, 3, 6, 10, 15):
                self.assertEqual(error, (None, "book"))

    def test_each_kind_of_wrong_triple_at_each_place(self):
        for words in (2, 3, 4, 6):
            for answers in (2, 3, 4):
                good = with_border((1,) + (-2,) * (answers - 1), words)
                for at in sorted({0, len(good) // 2, len(good) - 1}):
                    self.check_wrong(good, at, answers)

    def check_wrong(self, good, at, answers):
        i, j, border = good[at]
        for item in (None, 1, "0,1", (), (i, j), (i, j, border, 0), [i, j, border], {"0": i}, border[:2]):
            self.assertEqual(book_error(put(good, at, item)), (at, "triple"))
        for one, other in ((j, i), (i, i), (i, j + 1), (i + 1, j), (-1, j), (i, None), (str(i), j), ((i,), j), (i, [j])):
            self.assertEqual(book_error(put(good, at, (one, other, border))), (at, "words"))
        for wrong in NO_BORDERS:
            self.assertEqual(book_error(put(good, at, (i, j, wrong))), (at, "border"))
        if at > 0:
            for length in {2, 3, 4} - {answers}:
                self.assertEqual(book_error(put(good, at, (i, j, (0,) * length))), (at, "answers"))

    def test_bools_are_no_words(self):
        self.assertEqual(book_error(((False, 1, (1, -1)),)), (0, "words"))
        self.assertEqual(book_error(((0, True, (1, -1)),)), (0, "words"))
        self.assertEqual(book_error(put(BM, 2, (True, 2, (2, -1)))), (2, "words"))

    def test_the_first_wrong_item_is_named_whatever_its_kind(self):
        wrong = (
            (None, "triple"), ((5, 1, (1, -1)), "words"), ((0, 1, (2, -2)), "border"),
        )
        for first, kind in wrong:
            for last, _ in wrong:
                self.assertEqual(book_error(((first), (0, 2, (1, -1)), last)), (0, kind))
        self.assertEqual(book_error((BM[0], (0, 2, (1, 1, 1)), None)), (1, "answers"))
        self.assertEqual(book_error((BM[0], None, (1, 2, (1, 1, 1)))), (1, "triple"))

    def test_in_one_item_the_first_reason_is_named(self):
        self.assertEqual(book_error(((5, 5, 5, 5),)), (0, "triple"))
        self.assertEqual(book_error(((5, 5, 5),)), (0, "words"))
        self.assertEqual(book_error(put(BM, 1, (0, 2, (2, 2, 2)))), (1, "border"))
        self.assertEqual(book_error(put(BM, 1, (1, 2, (1, 1, 1)))), (1, "words"))

    def test_the_number_of_answers_is_that_of_the_first_triple(self):
        book = ((0, 1, (1, -1, 0)), (0, 2, (1, -1)), (1, 2, (1, -1)))
        self.assertEqual(book_error(book), (1, "answers"))

    def test_the_error_is_a_pair_with_an_integer_or_none(self):
        error = book_error(((0, True, (1, -1)),))
        self.assertEqual([type(error), type(error[0]), type(error[1])], [tuple, int, str])


class BooksOfMenus(Refusing):
    def test_the_borders_are_those_of_the_rows(self):
        rng = random.Random(11)
        for number in range(300):
            menu = drawn.menu(rng, 2 + number % 3, 2 + number % 5, rng.choice(drawn.SIZES))
            book = book_of(menu)
            self.assertEqual(book, book_of_rows(menu))
            self.assertIsNone(book_error(book))
            self.assertEqual({type(item) for _, _, border in book for item in border}, {int})

    def test_even_cutting_and_leaning_borders(self):
        self.assertEqual(book_of(((5, 5), (5, 5))), ((0, 1, (0, 0)),))
        self.assertEqual(book_of(((6, 0, 1), (0, 9, 1))), ((0, 1, (2, -3, 0)),))
        self.assertEqual(book_of(((6, 0, 1), (0, -9, 1))), ((0, 1, (1, 1, 0)),))
        self.assertEqual(book_of(((0, 0), (0, 8))), ((0, 1, (0, -1)),))
        self.assertEqual(book_of(((MARK, -MARK), (-MARK, MARK))), ((0, 1, (1, -1)),))

    def test_too_few_and_too_many(self):
        for menu in (((1, 2),), ((0, 0, 0, 0),)):
            with self.assertRaises(TooFew):
                book_of(menu)
        for words in (7, 8):
            with self.assertRaises(TooMany) as caught:
                book_of(((1, 2),) * words)
            self.assertEqual((caught.exception.limit, type(caught.exception.limit)), (6, int))
        self.assertEqual(len(book_of(((1, 2),) * 6)), 15)

    def test_same_books(self):
        self.assertIs(same_book(M, ((6, 0), (4, 4), (0, 6))), True)
        self.assertIs(same_book(((1, 2), (0, 0)), ((9, 1), (0, 0))), True)
        self.assertIs(same_book(((1, 2), (0, 0)), ((9, 0), (0, 0))), False)
        self.assertIs(same_book(M, M[:2]), False)
        self.assertIs(same_book(M, M[::-1]), False)
        self.assertIs(same_book(((1, 1), (0, 0)), ((1, 1, 1), (0, 0, 0))), False)
        self.assertIs(same_book(((0, 0), (0, 0)), ((0, 0, 0), (0, 0, 0))), False)

    def test_same_books_prefer_the_same(self):
        rng = random.Random(12)
        same = []
        for number in range(200):
            answers, words = 2 + number % 3, 2 + number % 3
            one, other = (drawn.menu(rng, answers, words, rng.choice((1, 2))) for _ in range(2))
            if number % 5 == 0:
                other = tuple(tuple(3 * mark + 1 for mark in row) for row in one)
            likewise = all(
                says(book_of(one), i, j, belief) == says(book_of(other), i, j, belief)
                for belief in drawn.grid(answers, 3) for i, j in word_pairs(words)
            )
            self.assertIs(same_book(one, other), book_of_rows(one) == book_of_rows(other))
            self.assertTrue(likewise or not same_book(one, other))
            same.append(same_book(one, other))
        self.assertEqual(set(same), {True, False})

    def test_the_error_of_the_first_menu_comes_first(self):
        with self.assertRaises(TooFew):
            same_book(((1, 2),), ((1, 2),) * 7)
        with self.assertRaises(TooMany):
            same_book(((1, 2),) * 7, ((1, 2),))
        with self.assertRaises(TooFew):
            same_book(M, ((1, 2, 3),))
        with self.assertRaises(TooMany):
            same_book(M, ((1, 2, 3),) * 8)


class Says(Refusing):
    def test_who_is_preferred(self):
        seen = set()
        for book in BOOKS[::2]:
            words, answers = shape(book)
            for belief in drawn.grid(answers, 2):
                for one, other in itertools.product(range(words), repeat=2):
                    total = preference(book, one, other, belief)
                    value = says(book, one, other, belief)
                    self.assertEqual((value, type(value)), ((total > 0) - (total < 0), int))
                    seen.add((value, one < other))
        self.assertEqual(len(seen), 6)

    def test_the_book_of_a_menu_prefers_what_is_worth_more(self):
        for menu in (M, ((1, 2, 3), (3, 2, 1), (2, 2, 2), (0, 0, 0)), ((MARK, -MARK), (0, 0))):
            for belief in drawn.grid(len(menu[0]), 4):
                gains = averages(menu, belief)
                for one, other in itertools.product(range(len(menu)), repeat=2):
                    expected = (gains[one] > gains[other]) - (gains[one] < gains[other])
                    self.assertEqual(says(book_of(menu), one, other, belief), expected)

    def test_beliefs_of_any_size(self):
        self.assertEqual(says(BM, 0, 1, (2 * HUGE + 1, HUGE)), 1)
        self.assertEqual(says(BM, 1, 0, (2 * HUGE + 1, HUGE)), -1)
        self.assertEqual(says(BM, 0, 1, (2 * HUGE - 1, HUGE)), -1)

    def test_wrong_words_and_beliefs_in_their_order(self):
        for word in bad_words(3):
            self.assert_no_word(word, says, BM, word, 0, (1, 1))
            self.assert_no_word(word, says, BM, 0, word, (1, 1))
            self.assert_no_word(word, says, BM, word, (99,), None)
            self.assert_no_word(word, says, BM, 2, word, None)
        for belief in bad_beliefs(2):
            self.assert_bad_belief(belief, says, BM, 0, 1, belief)
            self.assert_bad_belief(belief, says, BM, 1, 1, belief)

    def test_words_of_books_of_two_and_of_six(self):
        self.assertEqual(says(((0, 1, (1, 0)),), 1, 0, (1, 0)), -1)
        self.assertEqual(says(with_border((1, 1), 6), 5, 0, (1, 0)), -1)
        self.assert_no_word(2, says, ((0, 1, (1, 0)),), 2, 0, (1, 0))
        self.assert_no_word(6, says, with_border((1, 1), 6), 0, 6, (1, 0))


class Orders(Refusing):
    def test_orders_and_rounds(self):
        seen = set()
        for book in BOOKS[::2]:
            words, answers = shape(book)
            for belief in drawn.grid(answers, 2):
                value = order_at(book, belief)
                wrong = [three for three in itertools.combinations(range(words), 3)
                         if not judges.in_order(book, three, belief)]
                if wrong:
                    self.assertEqual(value, ("round", wrong[0]))
                else:
                    self.check_groups(book, words, belief, value)
                seen.add((words, value[0]))
        self.assertEqual(len(seen), 9)

    def check_groups(self, book, words, belief, value):
        self.assertEqual(value[0], "order")
        self.assertEqual({type(part) for part in (value, value[1]) + value[1]}, {tuple})
        self.assertEqual(sorted(word for group in value[1] for word in group), list(range(words)))
        for at, group in enumerate(value[1]):
            self.assertTrue(group)
            self.assertEqual(list(group), sorted(group))
            for one in group:
                for later, other in ((number, word) for number, each in enumerate(value[1]) for word in each):
                    total = preference(book, one, other, belief)
                    self.assertEqual((total > 0) - (total < 0), (at < later) - (later < at))

    def test_whoever_prefers_by_marks_is_in_order(self):
        for menu in drawn.menus(13, 160):
            if not 2 <= len(menu) <= 6:
                continue
            for belief in drawn.grid(len(menu[0]), 2):
                gains = averages(menu, belief)
                groups = tuple(
                    tuple(word for word, each in enumerate(gains) if each == gain) for gain in sorted(set(gains))[::-1]
                )
                self.assertEqual(order_at(book_of(menu), belief), ("order", groups))

    def test_books_for_two_words_are_in_order(self):
        self.assertEqual(order_at(((0, 1, (1, -1)),), (1, 1)), ("order", ((0, 1),)))
        self.assertEqual(order_at(((0, 1, (1, -1)),), (0, 1)), ("order", ((1,), (0,))))

    def test_the_least_words_that_are_not_in_order(self):
        sixth = drawn.SPECIAL_BOOKS[11]
        self.assertEqual(order_at(sixth, (1, 2, 3, 5)), ("round", (0, 1, 5)))
        swapped = tuple((i, j, (-1, -1) if (i, j) == (3, 5) else (1, 1)) for i, j in word_pairs(6))
        self.assertEqual(order_at(swapped, (1, 1)), ("round", (3, 4, 5)))
        self.assertEqual(order_at(R, (2, 1)), ("round", (0, 1, 2)))
        # Two that are even to a third one, but not to each other.
        self.assertEqual(order_at(((0, 1, (1, 1)), (0, 2, (0, 0)), (1, 2, (0, 0))), (1, 1)), ("round", (0, 1, 2)))

    def test_beliefs_of_any_size(self):
        self.assertEqual(order_at(BM, (2 * HUGE + 1, HUGE)), ("order", ((0,), (1,), (2,))))
        self.assertEqual(order_at(BM, (HUGE - 1, HUGE)), ("order", ((1,), (2,), (0,))))

    def test_no_belief_for_the_book(self):
        for belief in bad_beliefs(2):
            self.assert_bad_belief(belief, order_at, BM, belief)
            self.assert_bad_belief(belief, order_at, R, belief)
        for belief in bad_beliefs(4):
            self.assert_bad_belief(belief, order_at, with_border((1, -1, 0, 0), 2), belief)


if __name__ == "__main__":
    unittest.main()
