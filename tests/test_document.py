"""The examples of the document, section by section."""

import unittest

from frankmarks.benches import Bench, FrankBench
from frankmarks.cells import border, cell_kind, corners, inner, parted
from frankmarks.errors import BadText, Rejected, TooFew
from frankmarks.forms import belief_of, best, gain, is_belief, menu_error, worth
from frankmarks.joins import both, either, seen, shifted, times
from frankmarks.lies import calm, calm_holds, greatest_loss, lie, like, loss, plain, steady
from frankmarks.menus import Menu
from frankmarks.pairs import (
    book_error, book_of, find_marks, find_round, freedom, marks_holds, order_at, round_holds, same_book, says,
)
from frankmarks.papers import (
    compare, compare_holds, reach, reach_holds, stand, stand_holds, under, under_holds, useful,
)
from frankmarks.shells import Shell
from frankmarks.texts import belief_text, menu_text, parse_belief, parse_menu

U = ((4, 0), (0, 4), (3, 3), (1, 1))
M = ((3, 0), (2, 2), (0, 3))
P = ((1, 0, 0), (0, 1, 0), (0, 0, 1))
N = ((2, 0), (0, 2), (1, 1), (1, 0))
E = ((1, 0), (0, 1))
Q = ((1, 0), (0, 1))
R = ((0, 1, (1, -1)), (0, 2, (-1, 1)), (1, 2, (1, -1)))
W = ((0, 1, (1, -3)), (0, 2, (3, -5)), (0, 3, (4, -5)), (1, 2, (1, -1)), (1, 3, (5, -3)), (2, 3, (3, -1)))


class SectionA(unittest.TestCase):
    def test_texts(self):
        self.assertEqual(
            [parse_menu("4,0 | 0,4 | 3,3 | 1,1") == U, menu_text(((-1, 2), (0, 0))), parse_belief("3:1"),
             belief_text((0, 1, 0)), belief_of((4, 0, 6))],
            [True, "-1,2 | 0,0", (3, 1), "0:1:0", (2, 0, 3)],
        )

    def test_gains(self):
        self.assertEqual(
            [gain(U, 0, (3, 1)), worth(U, (3, 1)), best(U, (3, 1)), best(U, (1, 1)), best(U, (0, 1)),
             is_belief(U, (2, 2)), is_belief(U, (0, 1))],
            [(3, 1), (3, 1), (0, 2), (2,), (1,), False, True],
        )

    def test_menu_errors(self):
        self.assertEqual(
            [menu_error(((1, 2), (3, 4, 5))), menu_error(((1, 2), (1, True))), menu_error(())],
            [(1, "answers"), (1, "row"), (None, "menu")],
        )

    def test_a_bad_text(self):
        with self.assertRaises(BadText) as caught:
            parse_belief("2:2")
        self.assertEqual(caught.exception.given, "2:2")
        self.assertEqual(repr(caught.exception), "BadText('2:2')")


class SectionB(unittest.TestCase):
    def test_cells_of_two_answers(self):
        self.assertEqual(
            [corners(M, 0), corners(M, 1), inner(M, 0), inner(M, 1), border(M, 0, 1), border(M, 0, 2)],
            [((1, 0), (2, 1)), ((1, 2), (2, 1)), (3, 1), (1, 1), ((2, 1),), ()],
        )
        self.assertEqual([parted(M, (2, 1), (3, 1)), parted(M, (3, 1), (1, 0))], [True, False])

    def test_cells_of_three_answers(self):
        self.assertEqual(
            [corners(P, 0), inner(P, 0), border(P, 0, 1)],
            [((1, 0, 0), (1, 0, 1), (1, 1, 0), (1, 1, 1)), (2, 1, 1), ((1, 1, 0), (1, 1, 1))],
        )

    def test_kinds(self):
        self.assertEqual(
            [[cell_kind(N, word) for word in range(4)], corners(N, 2), corners(N, 3)],
            [["wide", "wide", "thin", "none"], ((1, 1),), ()],
        )


class SectionC(unittest.TestCase):
    def test_stands_and_reaches(self):
        self.assertEqual(
            ([stand(N, word)[0] for word in range(4)], [reach(N, word)[0] for word in range(4)]),
            (["alone", "alone", "shut", "shut"], ["best", "best", "best", "never"]),
        )
        self.assertEqual(
            [stand_holds(N, 0, ("alone", (2, 1))), stand_holds(N, 0, ("alone", (1, 1))),
             stand_holds(N, 2, ("shut", ((0, 1), (1, 1)))), stand_holds(N, 2, ("shut", ((0, 1), (2, 1))))],
            [True, False, True, False],
        )
        self.assertEqual(
            [reach(N, 2), reach_holds(N, 3, ("never", ((0, 2), (1, 1)))), reach_holds(N, 3, ("never", ((0, 1),)))],
            [("best", (1, 1)), True, False],
        )

    def test_menus_beside_menus(self):
        self.assertEqual(
            [useful(N), compare(N, ((0, 2), (2, 0))), compare_holds(M, ((3, 0), (0, 3)), ("apart", (1, 1))),
             compare_holds(M, ((3, 0), (0, 3)), ("apart", (1, 0)))],
            [((0, 2), (2, 0)), ("alike",), True, False],
        )
        self.assertEqual(
            [under(M, ((3, 0), (0, 3)))[0],
             under_holds(((2, 2), (1, 0)), M, ("under", (((1, 1),), ((0, 1), (1, 2))))),
             under_holds(((3, 3),), M, ("above", (5, 0)))],
            ["above", True, False],
        )


class SectionD(unittest.TestCase):
    def test_losses(self):
        self.assertEqual(
            [loss(M, 0, (1, 1)), loss(M, 2, (3, 1)), lie(M, 0, 1), lie(M, 1, 2), lie(M, 1, 1)],
            [(1, 2), (3, 2), (((0, 1), (2, 1)), ((1, 1), (1, 0))), (((0, 1), (1, 2)), ((1, 1), (2, 1))),
             (((0, 1), (1, 2)), ((0, 1), (1, 2)))],
        )
        self.assertEqual(
            [greatest_loss(M, 0), greatest_loss(M, 1), greatest_loss(M, 2), steady(M), lie(((1, 1), (0, 0)), 1, 0)],
            [(3, 1), (1, 0), (3, 0), (1, 1), None],
        )

    def test_calm(self):
        self.assertEqual(
            [calm(E)[0], calm_holds(E, calm(E)), calm_holds(M, ((1, 1), ((1, 1),), (1, 1))),
             calm_holds(M, ((1, 1), ((1, 5),), (2, 1))), calm_holds(M, ((3, 2), ((0, 1), (2, 1)), (1, 1)))],
            [(1, 2), True, True, True, False],
        )

    def test_plain_and_like(self):
        self.assertEqual(
            [plain(((5, -2), (3, 2), (1, 6))), plain(((7, 7), (7, 7))), like(E, ((4, 2), (1, 5))),
             like(((2, 0), (0, 2)), E), like(E, ((5, 2), (2, 8)))],
            [((2, 0), (1, 2), (0, 4)), ((0, 0), (0, 0)), ((3, 1), ((1, 1), (2, 1))), ((1, 2), ((0, 1), (0, 1))), None],
        )


class SectionE(unittest.TestCase):
    def test_books_of_menus(self):
        self.assertEqual(
            [book_of(M), book_of(((1, 2), (0, 0), (0, 5))), same_book(M, ((6, 0), (4, 4), (0, 6))),
             same_book(((1, 2), (0, 0)), ((9, 1), (0, 0)))],
            [((0, 1, (1, -2)), (0, 2, (1, -1)), (1, 2, (2, -1))),
             ((0, 1, (1, 1)), (0, 2, (1, -3)), (1, 2, (0, -1))), True, True],
        )
        with self.assertRaises(TooFew):
            book_of(((1, 2),))

    def test_orders_and_rounds(self):
        self.assertEqual(
            [says(book_of(M), 0, 1, (3, 1)), says(book_of(M), 2, 0, (1, 1)), order_at(book_of(M), (1, 1)),
             order_at(book_of(M), (1, 0)), find_round(book_of(M))],
            [1, 0, ("order", ((1,), (0, 2))), ("order", ((0,), (1,), (2,))), None],
        )
        self.assertEqual(
            [order_at(R, (2, 1)), order_at(R, (1, 1)), round_holds(R, ((1, 0), 0, 1, 2)),
             round_holds(R, ((0, 1), 0, 1, 2)), round_holds(R, ((0, 1), 0, 2, 1))],
            [("round", (0, 1, 2)), ("order", ((0, 1, 2),)), True, False, True],
        )

    def test_book_errors(self):
        self.assertEqual(
            [book_error(((0, 1, (2, -4)),)), book_error(((0, 1, (1, -2)), (0, 2, (1, 1)), (2, 1, (0, 0)))),
             book_error(((0, 1, (0, 2)),)), book_error(())],
            [(0, "border"), (2, "words"), (0, "border"), (None, "book")],
        )

    def test_marks(self):
        self.assertEqual(
            [find_round(W), find_marks(W)[0],
             marks_holds(W, ("balance", ((1, 2, (-6, -6)), (1, 3, (3, 5)), (2, 3, (-1, -3))))),
             marks_holds(book_of(M), ("marks", M)), marks_holds(W, ("balance", ()))],
            [None, "balance", True, True, False],
        )
        self.assertEqual(
            [freedom(book_of(M)), freedom(W), freedom(book_of(((1, 2), (0, 0)))), freedom(((0, 1, (0, 0, 0)),))],
            [1, None, 2, 0],
        )


class SectionF(unittest.TestCase):
    def test_joins(self):
        self.assertEqual(
            [both(Q, Q), either(((3, 0), (0, 3)), ((2, 2),)), times(((1, -1), (0, 0)), 3), shifted(Q, (5, 7)),
             seen(((3, 0), (0, 4)), (0, 0, 1))],
            [((0, 2), (2, 0)), ((0, 3), (2, 2), (3, 0)), ((3, -3), (0, 0)), ((6, 7), (5, 8)), ((3, 3, 0), (0, 0, 4))],
        )


class SectionN(unittest.TestCase):
    def test_menus(self):
        one = Menu(U)
        self.assertEqual(
            [len(one), one[2], bool(one), bool(Menu(U[:3])), one((3, 1)), (3, 3) in one, str(Menu(((0, -2),)))],
            [4, (3, 3), False, True, (3, 1), True, "0,-2"],
        )
        self.assertEqual(
            [one == Menu(U[:3]), one.is_alike(Menu(U[:3])), Menu(U[:2]).is_under(one), one.is_under(Menu(U[:2])),
             Menu(U[:2]) | Menu(U[2:]) == Menu(((0, 4), (3, 3), (4, 0)))],
            [False, True, True, False, True],
        )
        self.assertIs(2 * Menu(((1, -1),)) + Menu(((0, 3),)) == Menu(((2, 1),)), True)

    def test_benches_and_shells(self):
        bench = Bench(U)
        shell = Shell(bench)
        self.assertEqual(
            [shell("stands"), shell("drop 3"), shell("mark 2 0 2"), shell("stands"), shell("worth 1:1"),
             shell("best 1:1")],
            ["alone alone alone shut", "ok 1", "ok 2", "alone alone alone", "5/2", "2"],
        )
        self.assertEqual(
            [bench.compared(until=1), bench.stands_at(version=0), shell("put 1,2,3"), shell("put 1,02"),
             shell("lie 0 2"), shell("useful")],
            [("alike",), ("alone", "alone", "alone", "shut"), "error BadRow", "unknown command", "0/1 2/1",
             "0,4 | 2,3 | 4,0"],
        )
        with self.assertRaises(Rejected) as caught:
            FrankBench(U[:3]).attempt((("mark", 2, 0, 2), ("put", (0, 0))))
        self.assertEqual(caught.exception.index, 1)
        self.assertEqual(repr(caught.exception), "Rejected(1)")


if __name__ == "__main__":
    unittest.main()
