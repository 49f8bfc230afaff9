"""[N2], [N4], [Z2]: benches, their edits, undo, versions, copies and operators."""

import inspect
import random
import unittest

import drawn
from drawn import MARK
from frankmarks.benches import Bench, FrankBench
from frankmarks.menus import Menu
from frankmarks.papers import compare, stand
from frankmarks.texts import menu_text
from judges import bad_words
from models import edited, wrong_edits
from odd_values import ODD_VALUES
from workbench import F, U, Working, minus, plus, put_item, told

HUGE = 10 ** 5000
FULL = tuple((16 * k - k * k, -16 * k) for k in range(8))


def do(bench, edit):
    """Do the edit by its method."""
    return getattr(bench, edit[0])(*edit[1:])


def do_otherwise(bench, edit):
    """Do the edit by its operator; shift has none."""
    if edit[0] == "put":
        plus(bench, edit[1])
    elif edit[0] == "drop":
        minus(bench, edit[1])
    elif edit[0] == "mark":
        put_item(bench, (edit[1], edit[2]), edit[3])
    else:
        bench.shift(edit[1])


def forty(bench):
    for number in range(40 - len(bench.edits())):
        bench.shift((1, 0) if number % 2 else (-1, 0))
    return bench


class Edits(Working):
    def test_put(self):
        bench = Bench(((1, 2),))
        for many in range(1, 8):
            row = (many, -many)
            self.assertEqual(bench.put(row), many)
            self.assertEqual(bench[many], row)
            self.assertEqual(len(bench), many + 1)
        self.assertEqual(bench[0], (1, 2))
        self.check_refused(bench, ("TooMany", 8), bench.put, (0, 0))
        wrong = (0, 0, 0)
        self.check_refused(bench, ("BadRow", wrong), bench.put, wrong)
        self.assertEqual(Bench(((0, 0),)).put((MARK, -MARK)), 1)
        self.assertEqual(Bench(((0, 0),)).put((0, 0)), 1)

    def test_drop(self):
        bench = Bench(U)
        self.assertEqual((bench.drop(1), bench.menu_at()), (1, ((4, 0), (3, 3), (1, 1))))
        self.assertEqual((bench.drop(2), bench.menu_at()), (2, ((4, 0), (3, 3))))
        self.check_refused(bench, ("NoWord", 2), bench.drop, 2)
        self.assertEqual((bench.drop(0), bench.menu_at()), (3, ((3, 3),)))
        self.check_refused(bench, ("LastWord",), bench.drop, 0)
        self.check_refused(bench, ("NoWord", 1), bench.drop, 1)
        self.check_refused(bench, ("NoWord", False), bench.drop, False)

    def test_mark(self):
        bench = Bench(U)
        self.assertEqual(bench.mark(3, 1, -MARK), 1)
        self.assertEqual(bench.mark(0, 0, MARK), 2)
        self.assertEqual(bench.menu_at(), ((MARK, 0), (0, 4), (3, 3), (1, -MARK)))
        self.assertEqual(bench.mark(0, 0, MARK), 3)
        self.check_refused(bench, ("NoWord", 4), bench.mark, 4, 9, None)
        self.check_refused(bench, ("NoAnswer", 2), bench.mark, 3, 2, None)
        high = MARK + 1
        self.check_refused(bench, ("BadMark", high), bench.mark, 3, 1, high)

    def test_shift(self):
        bench = Bench(U)
        self.assertEqual(bench.shift((-1, 5)), 1)
        self.assertEqual(bench.menu_at(), ((3, 5), (-1, 9), (2, 8), (0, 6)))
        self.assertEqual(bench.shift((0, MARK - 9)), 2)
        self.check_refused(bench, ("TooGreat",), bench.shift, (0, 1))
        self.assertEqual(bench.shift((1 - MARK, 0)), 3)
        self.assertEqual(bench.menu_at()[1], (-MARK, MARK))
        self.check_refused(bench, ("TooGreat",), bench.shift, (-1, 0))
        self.check_refused(bench, ("TooGreat",), bench.shift, (MARK, MARK))
        self.assertEqual(bench.shift((0, 0)), 4)

    def test_wrong_edits_change_nothing(self):
        names = set()
        for value in ((U, Bench), (drawn.bowed(random.Random(1), 2, 4), FrankBench)):
            menu, made = value
            bench = made(menu)
            for edit, expected in wrong_edits(menu):
                names.add(expected[0])
                self.check_error(self.raised(do, bench, edit), expected)
                self.assertEqual((bench.menu_at(), bench.edits(), len(list(bench.each_version()))), (menu, (), 1))
                self.check_error(self.raised(do_otherwise, bench, edit), expected)
            self.assertEqual(told(bench), told(made(menu)))
        self.assertEqual(names, {"BadRow", "NoWord", "NoAnswer", "BadMark", "TooGreat"})

    def test_edits_are_told_as_they_were_done(self):
        rng = random.Random(2)
        for menu in drawn.menus(31, 60):
            bench = Bench(menu)
            done = []
            for _ in range(6):
                row = drawn.row(rng, len(menu[0]), 40)
                word = rng.randrange(len(bench))
                for edit in (("put", row), ("drop", word), ("mark", word, 1, rng.randint(-9, 9)), ("shift", row)):
                    expected, error = edited(bench.menu_at(), edit)
                    if error is None:
                        done.append(edit)
                        self.assertEqual(do(bench, edit), len(done))
                        self.assertEqual(bench.menu_at(), expected)
                    else:
                        self.check_refused(bench, error, do, bench, edit)
            self.assertEqual(bench.edits(), tuple(done))
            self.assertEqual({type(edit) for edit in bench.edits()}, {tuple})

    def test_what_is_passed_is_not_changed(self):
        for wrong in ([1, 2], {"1": [2]}, ([1], [2])):
            kept = repr(wrong)
            bench = Bench(U)
            for call in (bench.put, bench.drop, bench.shift, lambda value: bench.mark(value, value, value),
                         lambda value: bench.attempt((("put", value),)), bench.attempt):
                self.raised(call, wrong)
            self.assertEqual(repr(wrong), kept)


class Limits(Working):
    def test_forty_edits_and_no_more(self):
        for made in (Bench, FrankBench):
            bench = forty(made(F))
            self.assertEqual(len(bench.edits()), 40)
            for edit in (("put", (9, 9)), ("put", None), ("drop", 0), ("drop", 99), ("mark", 0, 0, 0), ("shift", (1, 1)),
                         ("mark", None, 0, 0), ("mark", 0, 0, None), ("shift", (MARK, 0)), ("shift", ()), ("drop", True)):
                self.check_refused(bench, ("TooManyEdits",), do, bench, edit)
                self.check_refused(bench, ("TooManyEdits",), do_otherwise, bench, edit)
                self.check_refused(bench, ("Rejected", 0), bench.attempt, (edit,))
            for value in ODD_VALUES:
                for call in (bench.put, bench.drop, bench.shift, lambda one: bench.mark(one, one, one)):
                    self.check_error(self.raised(call, value), ("TooManyEdits",))

    def test_undo_makes_room_again(self):
        bench = forty(Bench(U))
        self.assertEqual(bench.undo(), 39)
        self.check_refused(bench, ("NoWord", 99), bench.drop, 99)
        self.assertEqual(bench.drop(0), 40)
        self.check_refused(bench, ("TooManyEdits",), bench.drop, 0)

    def test_items_of_no_pair_behind_forty_edits(self):
        bench = forty(Bench(U))
        for pair in ODD_VALUES + (0, 5, (0,), (0, 0, 0), [0, 0], "00"):
            expected = ("TooManyEdits",) if type(pair) is tuple and len(pair) == 2 else ("NoWord", pair)
            self.check_error(self.raised(put_item, bench, pair, 1), expected)
        self.check_refused(bench, ("TooManyEdits",), put_item, bench, (0, 0), 1)


class Undo(Working):
    def test_back_to_the_beginning_and_once_more(self):
        for made in (Bench, FrankBench):
            bench = made(F)
            before = [told(bench)]
            for edit in (("drop", 2), ("shift", (1, 2)), ("put", (4, 5)), ("mark", 0, 0, 6)):
                do(bench, edit)
                before.append(told(bench))
            for many in (3, 2, 1, 0):
                self.assertEqual(bench.undo(), many)
                before.pop()
                self.assertEqual(told(bench), before[-1])
            self.check_refused(bench, ("NothingToUndo",), bench.undo)
            self.assertEqual(told(bench), told(made(F)))
            self.check_refused(bench, ("NothingToUndo",), bench.undo)

    def test_forty_edits_undone(self):
        bench = forty(Bench(U))
        for many in range(39, -1, -1):
            self.assertEqual(bench.undo(), many)
        self.check_refused(bench, ("NothingToUndo",), bench.undo)
        self.assertEqual(told(bench), told(Bench(U)))

    def test_other_edits_behind_an_undo(self):
        bench = Bench(U)
        bench.drop(0)
        bench.undo()
        self.assertEqual(bench.put((9, 9)), 1)
        self.assertEqual(bench.edits(), (("put", (9, 9)),))
        self.assertEqual(list(bench.each_version()), [(0, U), (1, U + ((9, 9),))])


class Versions(Working):
    def bench(self, made=Bench):
        bench = made(F)
        for edit in (("drop", 1), ("mark", 0, 0, 9), ("put", (-9, 5)), ("shift", (2, 2)), ("drop", 0)):
            do(bench, edit)
        return bench

    def test_the_menu_behind_so_many_edits(self):
        for made in (Bench, FrankBench):
            bench = self.bench(made)
            menu = F
            for version, edit in enumerate(bench.edits()):
                self.assertEqual(bench.menu_at(version=version), menu)
                menu = edited(menu, edit)[0]
            self.assertEqual(bench.menu_at(version=5), menu)
            self.assertEqual(bench.menu_at(), menu)
            self.assertEqual(bench.menu_at(version=None), menu)

    def test_what_words_stand_for(self):
        bench = Bench(U)
        self.assertEqual(bench.stands_at(), ("alone", "alone", "alone", "shut"))
        bench.mark(2, 0, 1)
        bench.drop(3)
        self.assertEqual(bench.stands_at(), ("alone", "alone", "shut"))
        self.assertEqual(bench.stands_at(version=0), ("alone", "alone", "alone", "shut"))
        for menu in drawn.menus(32, 48):
            expected = tuple(stand(menu, word)[0] for word in range(len(menu)))
            self.assertEqual(Bench(menu).stands_at(version=0), expected)

    def test_versions_compared(self):
        bench = self.bench()
        menus = [menu for _, menu in bench.each_version()]
        for since in range(6):
            self.assertEqual(bench.compared(since=since), compare(menus[since], menus[5]))
            self.assertEqual(bench.compared(since=since, until=None), compare(menus[since], menus[5]))
            for until in range(6):
                self.assertEqual(bench.compared(since=since, until=until), compare(menus[since], menus[until]))
        self.assertEqual(bench.compared(), compare(menus[0], menus[5]))
        self.assertEqual(bench.compared(until=2), compare(menus[0], menus[2]))
        self.assertEqual(bench.compared(since=4, until=4), ("alike",))

    def test_values_that_are_no_versions(self):
        bench = self.bench()
        wrong = [*ODD_VALUES, 6, 7, -1, -6, True, False, "0", (0,), [0], HUGE]
        wrong = [value for value in wrong if value is not None]
        for value in wrong:
            for call in (lambda: bench.menu_at(version=value), lambda: bench.stands_at(version=value),
                         lambda: bench.compared(since=value), lambda: bench.compared(until=value),
                         lambda: bench.compared(since=value, until=99), lambda: bench.compared(since=5, until=value)):
                self.check_error(self.raised(call), ("NoVersion", value))
        self.check_refused(bench, ("NoVersion", None), bench.compared, since=None)
        self.check_refused(bench, ("NoVersion", None), bench.compared, since=None, until=99)
        first, second = [], []
        self.check_refused(bench, ("NoVersion", first), bench.compared, since=first, until=second)

    def test_versions_that_were_undone(self):
        bench = self.bench()
        bench.undo()
        self.check_refused(bench, ("NoVersion", 5), bench.menu_at, version=5)
        self.check_refused(bench, ("NoVersion", 5), bench.compared, until=5)
        self.assertEqual(bench.menu_at(version=4), bench.menu_at())
        self.check_refused(Bench(U), ("NoVersion", 1), Bench(U).stands_at, version=1)

    def test_each_version(self):
        bench = self.bench()
        self.assertTrue(inspect.isgenerator(bench.each_version()))
        pairs = list(bench.each_version())
        self.assertEqual(pairs, [(version, bench.menu_at(version=version)) for version in range(6)])
        self.assertEqual({type(pair) for pair in pairs}, {tuple})
        self.assertEqual(list(Bench(U).each_version()), [(0, U)])

    def test_arguments_behind_a_star_are_passed_by_keyword(self):
        bench = Bench(U)
        for call in (lambda: bench.menu_at(0), lambda: bench.stands_at(0), lambda: bench.compared(0),
                     lambda: bench.attempt((), None)):
            with self.assertRaises(TypeError):
                call()


class Copies(Working):
    def test_a_copy_answers_alike(self):
        for made in (Bench, FrankBench):
            bench = made(F)
            for edit in (None, ("drop", 1), ("put", (0, 9)), ("shift", (1, 0))):
                if edit is not None:
                    do(bench, edit)
                twin = bench.copy()
                self.assertIs(type(twin), made)
                self.assertIsNot(twin, bench)
                self.assertEqual(twin, bench)
                self.assertEqual(told(twin), told(bench))

    def test_what_is_done_to_one_leaves_the_other(self):
        for made in (Bench, FrankBench):
            bench = made(F)
            bench.drop(1)
            twin = bench.copy()
            before = told(bench)
            twin.undo()
            self.assertEqual(told(bench), before)
            twin.put((-9, 5))
            twin.attempt((("shift", (1, 1)), ("drop", 0)))
            self.assertEqual(told(bench), before)
            after = told(twin)
            bench.mark(0, 1, 1)
            bench.undo()
            bench.undo()
            self.assertEqual(told(twin), after)
            self.assertEqual(bench.menu_at(), F)

    def test_a_copy_has_as_much_room(self):
        twin = forty(Bench(U)).copy()
        self.check_refused(twin, ("TooManyEdits",), twin.drop, 0)
        self.assertEqual(twin.undo(), 39)


class Operators(Working):
    def test_put_and_drop_by_their_signs(self):
        bench = kept = Bench(U)
        bench += (7, 7)
        bench -= 0
        self.assertIs(bench, kept)
        self.assertEqual(bench.edits(), (("put", (7, 7)), ("drop", 0)))
        self.assertEqual(bench.menu_at(), U[1:] + ((7, 7),))
        holder = [bench]
        holder[0] += (1, 2)
        self.assertIs(holder[0], kept)
        self.assertEqual(len(kept), 5)

    def test_items_set(self):
        bench = Bench(U)
        bench[1, 0] = -5
        bench[(3, 1)] = MARK
        self.assertEqual(bench.edits(), (("mark", 1, 0, -5), ("mark", 3, 1, MARK)))
        self.check_refused(bench, ("NoWord", 4), put_item, bench, (4, 9), None)
        self.check_refused(bench, ("NoAnswer", -1), put_item, bench, (3, -1), None)
        self.check_refused(bench, ("BadMark", None), put_item, bench, (3, 1), None)
        for pair in ODD_VALUES + (0, 3, (0,), (0, 0, 0), [0, 0], (), "01", HUGE):
            if not (type(pair) is tuple and len(pair) == 2):
                for number in (1, None):
                    self.check_error(self.raised(put_item, bench, pair, number), ("NoWord", pair))
        self.assertEqual(len(bench.edits()), 2)

    def test_items_asked(self):
        for made in (Bench, FrankBench):
            bench = made(F)
            bench.drop(0)
            self.assertEqual((bench[0], bench[1]), F[1:])
            for index in bad_words(2):
                self.check_error(self.raised(lambda: bench[index]), ("NoWord", index))

    def test_rows_in_a_bench(self):
        bench = Bench(((1, 0), (0, 1), (1, 1)))
        menu = Menu(bench.menu_at())
        for value in ODD_VALUES + ((1, 0), (1, 1), (0, 0), (True, 0), (1, True), [1, 0], 0, "1,0", (1, 0, 0), menu.rows):
            self.assertIs(value in bench, value in menu)
        self.assertIs((0, 1) in bench, True)
        self.assertIs((True, 1) in bench, False)
        bench.drop(1)
        self.assertIs((0, 1) in bench, False)

    def test_len_bool_and_text(self):
        for menu in drawn.menus(33, 72) + list(drawn.SPECIAL_MENUS):
            bench = Bench(menu)
            self.assertEqual((len(bench), str(bench)), (len(menu), menu_text(menu)))
            self.assertIs(bool(bench), bool(Menu(menu)))
        bench = Bench(U)
        self.assertIs(bool(bench), False)
        bench.drop(3)
        self.assertEqual((len(bench), bool(bench), str(bench)), (3, True, "4,0 | 0,4 | 3,3"))

    def test_no_loop(self):
        for bench in (Bench(U), FrankBench(F)):
            for loop in (iter, list, tuple, sorted, set, max, enumerate, lambda value: [row for row in value]):
                with self.assertRaises(TypeError):
                    loop(bench)
            with self.assertRaises(TypeError):
                for _ in bench:
                    self.fail()


class Equal(Working):
    def check(self, one, other, equal):
        self.assertIs(one == other, equal)
        self.assertIs(one != other, not equal)
        self.assertIs(other == one, equal)
        self.assertIs(other != one, not equal)

    def test_equal_present_menus(self):
        for made in (Bench, FrankBench):
            one, other = made(F), made(F)
            self.check(one, other, True)
            one.drop(2)
            self.check(one, other, False)
            other.drop(2)
            self.check(one, other, True)
            other.put((3, 3))
            other.drop(0)
            self.check(one, other, False)
            self.check(made(F[:2]), one, True)
            one.undo()
            self.check(one, made(F), True)
            self.check(one, made(F[::-1]), False)

    def test_a_bench_and_a_frank_bench(self):
        self.check(Bench(F), FrankBench(F), False)
        self.check(FrankBench(F).copy(), FrankBench(F), True)
        self.check(Bench(F).copy(), FrankBench(F).copy(), False)

    def test_other_values(self):
        for bench in (Bench(F), FrankBench(F)):
            for value in ODD_VALUES + (F, list(F), str(bench), Menu(F), 3):
                self.check(bench, value, False)

    def test_equal_benches_answer_alike(self):
        one, other = Bench(F), Bench(((0, 0),) + F)
        other.drop(0)
        self.check(one, other, True)
        for ask in (str, bool, len, Bench.menu_at, Bench.stands_at, lambda bench: bench[2], lambda bench: (3, 3) in bench):
            self.assertEqual(ask(one), ask(other))
        one, other = FrankBench(F), FrankBench(F + ((-9, 5),))
        other.drop(3)
        self.assertEqual(one.owns, other.owns)


if __name__ == "__main__":
    unittest.main()
