"""[N3]: batches of edits, on_step, and a bench that is busy."""

import unittest

from frankmarks.benches import Bench, FrankBench
from frankmarks.errors import BadBatch, Busy, FrankError, NotFrank, Rejected
from frankmarks.menus import Menu
from frankmarks.shells import Shell
from models import NO_EDITS, wrong_edits
from odd_values import ODD_VALUES
from test_benches import do, forty
from workbench import BUSY_COMMANDS, F, U, WAYS, Working, told

RIGHT = (("put", (-9, 5)), ("drop", 1), ("mark", 0, 1, -1), ("shift", (1, 2)))
LONG = tuple(("shift", (number, -number)) for number in range(20))


class Stop(Exception):
    pass


class Batches(Working):
    def test_all_edits_in_their_order(self):
        for made in (Bench, FrankBench):
            one, other = made(F), made(F)
            self.assertEqual(one.attempt(RIGHT), 4)
            for edit in RIGHT:
                do(other, edit)
            self.assertEqual(told(one), told(other))
            self.assertEqual(one.edits(), RIGHT)
            self.assertEqual(one.attempt((("undo",),)[:0]), 4)
            self.assertEqual(one.attempt((("drop", 0),)), 5)
            self.assertEqual(one.undo(), 4)
            self.assertEqual(told(one), told(other))

    def test_the_empty_batch(self):
        for bench in (Bench(U), FrankBench(F), forty(Bench(U)), forty(FrankBench(F))):
            before = told(bench)
            steps = []
            self.assertEqual(bench.attempt(()), len(bench.edits()))
            self.assertEqual(bench.attempt((), on_step=steps.append), len(bench.edits()))
            self.assertEqual((told(bench), steps), (before, []))

    def test_twenty_items_and_one_more(self):
        bench = Bench(U)
        self.check_refused(bench, ("BadBatch",), bench.attempt, LONG + LONG[:1])
        self.check_refused(bench, ("BadBatch",), bench.attempt, (None,) * 21)
        self.check_refused(bench, ("Rejected", 0), bench.attempt, (None,) * 20)
        self.assertEqual(bench.attempt(LONG), 20)
        self.assertEqual(bench.attempt(LONG), 40)
        self.assertEqual(bench.edits(), LONG + LONG)
        self.check_refused(bench, ("BadBatch",), bench.attempt, LONG + LONG[:1])
        self.check_refused(bench, ("Rejected", 0), bench.attempt, LONG)
        self.check_refused(bench, ("Rejected", 0), bench.attempt, (None,))

    def test_what_is_no_tuple(self):
        for bench in (Bench(U), forty(Bench(U))):
            for value in ODD_VALUES + (list(RIGHT), {"0": RIGHT[0]}, "drop 0", None, 5, True):
                if not isinstance(value, tuple):
                    error = self.raised(bench.attempt, value)
                    self.assertIs(type(error), BadBatch)
                elif 0 < len(value) <= 20:
                    self.check_error(self.raised(bench.attempt, value), ("Rejected", 0))
            self.check_error(self.raised(bench.attempt, (0,) * 2000), ("BadBatch",))

    def test_an_edit_put_for_a_batch(self):
        self.check_refused(Bench(U), ("Rejected", 0), Bench(U).attempt, ("drop", 0))

    def test_wrong_at_each_place(self):
        for made in (Bench, FrankBench):
            wrong = [("drop", 99), ("put", (1, 2, 3)), ("mark", 0, 2, 0), ("shift", (10 ** 6, 0)), ("drop",), None]
            for place in range(5):
                for edit in wrong:
                    bench = made(F)
                    bench.mark(0, 0, 6)
                    batch = RIGHT[:place] + (edit,) + RIGHT[place:]
                    seen = []
                    self.check_refused(bench, ("Rejected", place), bench.attempt, batch)
                    self.check_refused(bench, ("Rejected", place), bench.attempt, batch,
                                       on_step=lambda held: seen.append(held.edits()[1:]))
                    self.assertEqual(seen, [RIGHT[:many] for many in range(1, place + 1)])
                    self.assertEqual(bench.attempt(RIGHT), 5)

    def test_items_that_are_no_edits(self):
        bench = Bench(U)
        before = told(bench)
        for value in NO_EDITS:
            self.check_error(self.raised(bench.attempt, (value,)), ("Rejected", 0))
            self.check_error(self.raised(bench.attempt, RIGHT + (value, value)), ("Rejected", 4))
        self.assertEqual(told(bench), before)

    def test_edits_whose_method_raises_an_error(self):
        bench = Bench(U)
        for edit, _ in wrong_edits(U):
            self.check_error(self.raised(bench.attempt, (("shift", (0, 0)), edit)), ("Rejected", 1))
        self.assertEqual(bench.menu_at(), U)
        full = Bench(tuple((number, -number) for number in range(8)))
        self.check_refused(full, ("Rejected", 0), full.attempt, (("put", (1, 1)),))
        self.check_refused(full, ("Rejected", 8), full.attempt, (("drop", 0),) * 7 + (("shift", (1, 1)), ("drop", 0)))
        self.assertEqual(full.attempt((("drop", 7), ("put", (1, 1)), ("drop", 0), ("put", (2, 2)))), 4)

    def test_what_comes_before_tells_whether_an_edit_can_be_done(self):
        bench = Bench(((1, 2),))
        self.check_refused(bench, ("Rejected", 0), bench.attempt, (("drop", 0), ("put", (0, 0))))
        self.check_refused(bench, ("Rejected", 0), bench.attempt, (("mark", 1, 0, 0), ("put", (0, 0))))
        self.assertEqual(bench.attempt((("put", (0, 0)), ("mark", 1, 0, 5), ("drop", 0), ("mark", 0, 1, 6))), 4)
        self.assertEqual(bench.menu_at(), ((5, 6),))

    def test_a_batch_that_goes_beyond_forty_edits(self):
        bench = Bench(U)
        bench.attempt(LONG)
        bench.attempt(LONG[:18])
        self.check_refused(bench, ("Rejected", 2), bench.attempt, LONG[:3])
        self.check_refused(bench, ("Rejected", 1), bench.attempt, (LONG[0], None, LONG[0]))
        self.check_refused(bench, ("Rejected", 2), bench.attempt, LONG)
        self.assertEqual(bench.attempt(LONG[:2]), 40)
        self.check_refused(bench, ("Rejected", 0), bench.attempt, LONG[:1])
        bench.undo()
        self.assertEqual(bench.attempt(LONG[:1]), 40)


class OnStep(Working):
    def test_called_behind_each_edit_with_the_bench(self):
        for made in (Bench, FrankBench):
            bench = made(F)
            bench.mark(0, 0, 6)
            found = []

            def look(held):
                found.append((held is bench, told(held)))
                return Stop

            self.assertEqual(bench.attempt(RIGHT, on_step=look), 5)
            other = made(F)
            other.mark(0, 0, 6)
            for edit, (same, seen) in zip(RIGHT, found, strict=True):
                do(other, edit)
                self.assertTrue(same)
                self.assertEqual(seen, told(other))

    def test_what_it_returns_does_not_matter(self):
        for value in (None, False, True, 0, "no", [], Stop("x"), Rejected(7)):
            self.assertEqual(Bench(F).attempt(RIGHT, on_step=lambda held: value), 4)

    def test_what_it_raises_undoes_the_batch(self):
        for made in (Bench, FrankBench):
            for error in (Stop("x"), ValueError("y"), KeyError(1), StopIteration(), TypeError(), Rejected(7), Busy(),
                          NotFrank(0, None), FrankError(), AssertionError(), RuntimeError(), AttributeError()):
                for place in range(4):
                    bench = made(F)
                    bench.mark(0, 0, 6)
                    before = told(bench)
                    steps = []

                    def stop(held):
                        steps.append(held)
                        if len(steps) == place + 1:
                            raise error

                    with self.assertRaises(type(error)) as caught:
                        bench.attempt(RIGHT, on_step=stop)
                    self.assertIs(caught.exception, error)
                    self.assertEqual(len(steps), place + 1)
                    self.assertEqual(told(bench), before)
                    self.assertEqual(bench.attempt(RIGHT), 5)

    def test_not_called_behind_an_edit_that_is_not_done(self):
        bench = Bench(U)
        steps = []
        self.check_error(self.raised(bench.attempt, (None,), on_step=steps.append), ("Rejected", 0))
        self.check_error(self.raised(bench.attempt, [], on_step=steps.append), ("BadBatch",))
        self.check_error(self.raised(bench.attempt, (("drop", 9),), on_step=steps.append), ("Rejected", 0))
        self.assertEqual(steps, [])

    def test_no_function_is_called_for_none(self):
        self.assertEqual(Bench(U).attempt(RIGHT, on_step=None), 4)


class WhileBusy(Working):
    def benches(self):
        return Bench(F), forty(Bench(F)), FrankBench(F)

    def check_busy(self, held):
        before = told(held)
        for name, way in WAYS:
            with self.subTest(name):
                self.assertIs(type(self.raised(way, held)), Busy)
        for command in BUSY_COMMANDS:
            self.assertEqual(Shell(held)(command), "error Busy")
        for value in ODD_VALUES:
            for call in (held.put, held.drop, held.shift, held.attempt, lambda one: held.mark(one, one, one),
                         lambda one: held.__setitem__(one, one)):
                self.assertIs(type(self.raised(call, value)), Busy)
        self.assertEqual(told(held), before)

    def test_each_way_to_change_the_bench_is_refused(self):
        for bench in self.benches():
            if len(bench.edits()) == 40:
                bench.undo()
                bench.undo()
            many = len(bench.edits())
            steps = []

            def busy(held):
                steps.append(len(held.edits()))
                self.check_busy(held)

            self.assertEqual(bench.attempt((("shift", (1, 1)), ("shift", (2, 2))), on_step=busy), many + 2)
            self.assertEqual(steps, [many + 1, many + 2])
            self.assertEqual(bench.undo(), many + 1)

    def test_a_change_that_is_tried_and_not_caught_undoes_the_batch(self):
        for name, way in WAYS:
            bench = Bench(F)
            before = told(bench)
            with self.subTest(name):
                self.assertIs(type(self.raised(bench.attempt, RIGHT, on_step=way)), Busy)
                self.assertEqual(told(bench), before)
                self.assertEqual(bench.attempt(RIGHT), 4)

    def test_free_again_behind_each_end(self):
        bench = Bench(F)
        for batch, on_step in ((RIGHT, None), (RIGHT[:1] + (None,), None), ((), None), ([], None), (RIGHT, self.fail)):
            try:
                bench.attempt(batch, on_step=on_step)
            except (FrankError, AssertionError):
                pass
            self.assertEqual(bench.shift((0, 0)), len(bench.edits()))

    def test_a_copy_is_not_busy(self):
        for made in (Bench, FrankBench):
            bench = made(F)
            copies = []

            def work(held):
                twin = held.copy()
                self.assertIs(type(twin), made)
                self.assertEqual(told(twin), told(held))
                many = len(held.edits())
                self.assertEqual(twin.shift((1, 1)), many + 1)
                self.assertEqual(twin.attempt((("shift", (1, 1)),), on_step=self.check_busy), many + 2)
                for number in range(many + 2):
                    self.assertEqual(twin.undo(), many + 1 - number)
                self.check_error(self.raised(twin.undo), ("NothingToUndo",))
                self.assertEqual(twin, made(F))
                twin.put((-9, 5))
                copies.append(twin)

            self.assertEqual(bench.attempt(RIGHT, on_step=work), 4)
            self.assertEqual(bench.edits(), RIGHT)
            self.assertEqual([twin.edits() for twin in copies], [(("put", (-9, 5)),)] * 4)
            self.assertEqual(bench.undo(), 3)

    def test_a_copy_outlives_the_batch_that_is_undone(self):
        bench = Bench(F)
        copies = []

        def stop(held):
            copies.append(held.copy())
            if len(copies) == 2:
                raise Stop()

        with self.assertRaises(Stop):
            bench.attempt(RIGHT, on_step=stop)
        self.assertEqual([twin.edits() for twin in copies], [RIGHT[:1], RIGHT[:2]])
        self.assertEqual(bench.edits(), ())

    def test_another_bench_is_not_busy(self):
        one, other = Bench(F), Bench(F)
        self.assertEqual(one.attempt(RIGHT, on_step=lambda held: other.shift((1, 1))), 4)
        self.assertEqual(len(other.edits()), 4)

    def test_everything_else_answers(self):
        bench = Bench(U)
        seen = []

        def look(held):
            seen.append((len(held), held[0], (-9, 5) in held, bool(held), held == Bench(held.menu_at()), str(held),
                         Shell(held)("lie 1 1"), held == bench, Menu(held.menu_at()).rows))

        bench.attempt(RIGHT[:2], on_step=look)
        self.assertEqual(seen, [
            (5, (4, 0), True, False, True, "4,0 | 0,4 | 3,3 | 1,1 | -9,5", "0/1 0/1", True, U + ((-9, 5),)),
            (4, (4, 0), True, False, True, "4,0 | 3,3 | 1,1 | -9,5", "0/1 0/1", True, (U[0],) + U[2:] + ((-9, 5),)),
        ])


if __name__ == "__main__":
    unittest.main()
