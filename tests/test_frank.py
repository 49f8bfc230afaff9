"""[N5], [A2] (a): frank benches, on which each word is the only best one somewhere."""

import random
import unittest

import drawn
from frankmarks.benches import Bench, FrankBench
from frankmarks.errors import NotFrank
from frankmarks.papers import stand_holds
from frankmarks.shells import Shell
from judges import covered
from models import Model, edited, first_shut
from test_benches import do, do_otherwise, forty
from workbench import F, U, Working, told

MENUS = drawn.SPECIAL_MENUS + tuple(drawn.menus(41, 120)) + tuple(one for one, _ in drawn.bowed_pairs(42, 45))
# (1, 0) is worth no more than (4, 0) everywhere, (2, 2) no more than (4, 0) and (0, 4) by half and half.
SHUTTING = (
    (("put", (1, 0)), 3), (("put", (4, 0)), 0), (("put", (5, 5)), 0), (("put", (3, 3)), 2), (("put", (2, 2)), 3),
    (("mark", 2, 0, 1), 2), (("mark", 0, 0, 3), 0), (("mark", 1, 1, -5), 1), (("mark", 2, 1, 12), 1), (("mark", 2, 0, 4), 0),
)


class Making(Working):
    def test_each_word_is_alone_somewhere(self):
        kinds = []
        for menu in MENUS:
            word = first_shut(menu)
            if word is None:
                frank = FrankBench(menu)
                self.assertIs(type(frank), FrankBench)
                self.assertIsInstance(frank, Bench)
                self.assertEqual((frank.menu_at(), frank.edits(), bool(frank)), (menu, (), True))
                self.check_owns(frank)
            else:
                self.check_not_frank(self.raised(FrankBench, menu), menu, word)
            kinds.append((len(menu[0]), word))
        self.assertGreater(len(set(kinds)), 12)

    def test_the_first_word_that_is_not(self):
        for menu, word in ((U, 3), (((1, 1), (1, 1)), 0), (((0, 0), (5, 0), (4, 0), (0, 0)), 0),
                           (((5, 0), (0, 5), (2, 2), (9, 9)), 0), (((5, 0), (0, 5), (2, 2), (1, 1)), 2)):
            error = self.raised(FrankBench, menu)
            self.check_not_frank(error, menu, word)
            self.assertIs(stand_holds(menu, word, ("shut", error.weights)), True)

    def test_a_subclass(self):
        self.assertTrue(issubclass(FrankBench, Bench))
        self.assertEqual(FrankBench.__bases__, (Bench,))


class Changing(Working):
    def check_not_done(self, frank, edit, word):
        before = told(frank)
        menu = edited(frank.menu_at(), edit)[0]
        self.assertEqual(first_shut(menu), word)
        for way in (do, do_otherwise):
            self.check_not_frank(self.raised(way, frank, edit), menu, word)
            self.assertEqual(told(frank), before)
        self.check_refused(frank, ("Rejected", 0), frank.attempt, (edit,))
        self.check_refused(frank, ("Rejected", 1), frank.attempt, (("shift", (0, 0)), edit))

    def test_edits_that_would_shut_a_word_out(self):
        for edit, word in SHUTTING:
            self.check_not_done(FrankBench(F), edit, word)

    def test_other_errors_come_first(self):
        frank = FrankBench(F)
        for edit in (("put", (4, 0, 0)), ("drop", 3), ("mark", 3, 0, 1), ("mark", 2, 2, 1), ("mark", 2, 0, 10 ** 6 + 1),
                     ("shift", (10 ** 6, 0)), ("put", (True, 0))):
            self.check_refused(frank, edited(F, edit)[1], do, frank, edit)
        full = FrankBench(drawn.bowed(random.Random(3), 2, 8))
        self.check_refused(full, ("TooMany", 8), full.put, full[0])
        alone = FrankBench(((1, 2),))
        self.check_refused(alone, ("LastWord",), alone.drop, 0)
        self.check_refused(forty(frank), ("TooManyEdits",), frank.put, (4, 0))

    def test_drops_and_shifts_leave_a_bench_frank(self):
        for one, _ in drawn.bowed_pairs(44, 30):
            frank = FrankBench(one)
            while len(frank) > 1:
                frank.shift((1,) + (-1,) * (len(one[0]) - 1))
                frank.drop(len(frank) // 2)
                self.check_owns(frank)

    def test_no_order_of_edits_hides_a_menu_that_is_not_frank(self):
        frank = FrankBench(F)
        self.check_refused(frank, ("Rejected", 0), frank.attempt, (("mark", 2, 0, 1), ("drop", 2)))
        self.check_refused(frank, ("Rejected", 1), frank.attempt, (("drop", 0), ("put", (0, 4)), ("drop", 0)))
        self.check_refused(frank, ("Rejected", 2), frank.attempt, (("drop", 0), ("drop", 1), ("put", (0, 3)), None))
        self.assertEqual(frank.attempt((("drop", 2), ("mark", 1, 1, 5), ("put", (3, 3)))), 3)
        self.assertEqual(frank.menu_at(), ((4, 0), (0, 5), (3, 3)))

    def test_undo_is_always_possible(self):
        frank = FrankBench(F)
        for edit in (("put", (-9, 5)), ("drop", 1), ("mark", 0, 0, 5), ("shift", (3, 4))):
            do(frank, edit)
        for many in (3, 2, 1, 0):
            self.assertEqual(frank.undo(), many)
            self.check_owns(frank)
        self.assertEqual(told(frank), told(FrankBench(F)))
        self.check_refused(frank, ("NothingToUndo",), frank.undo)

    def test_a_shell_tells_the_name(self):
        shell = Shell(FrankBench(F))
        self.assertEqual([shell("put 1,0"), shell("mark 2 0 1"), shell("put 5,-9"), shell("undo"), shell("put 5,-4")],
                         ["error NotFrank", "error NotFrank", "ok 1", "ok 0", "ok 1"])

    def test_a_copy_is_as_frank(self):
        frank = FrankBench(F)
        frank.drop(0)
        twin = frank.copy()
        for edit, word in ((("put", (3, 3)), 1), (("mark", 0, 1, 1), 0)):
            self.check_refused(twin, ("NotFrank", word), do, twin, edit)
        self.assertEqual(twin.put((4, 0)), 2)
        self.check_owns(twin)


class Owns(Working):
    def test_behind_each_edit(self):
        rng = random.Random(6)
        for menu in [one for one, _ in drawn.bowed_pairs(45, 24)]:
            frank = FrankBench(menu)
            model = Model(menu, frank=True)
            for _ in range(8):
                word, answer = rng.randrange(len(frank)), rng.randrange(len(menu[0]))
                spare = drawn.bowed(rng, len(menu[0]), 1, 12 if len(menu[0]) == 2 else 4)[0]
                edit = rng.choice((("put", spare), ("drop", word), ("shift", spare),
                                   ("mark", word, answer, frank[word][answer] + rng.randint(-3, 3))))
                expected = model.do(edit)
                if isinstance(expected, tuple):
                    self.check_error(self.raised(do, frank, edit), expected)
                else:
                    self.assertEqual(do(frank, edit), expected)
                self.assertEqual(frank.menu_at(), model.menus[-1])
                self.check_owns(frank)

    def test_can_only_be_read(self):
        frank = FrankBench(F)
        for change in (lambda: setattr(frank, "owns", ()), lambda: delattr(frank, "owns")):
            with self.assertRaises(AttributeError):
                change()
        self.check_owns(frank)

    def test_hangs_on_the_present_menu_alone(self):
        for one, _ in drawn.bowed_pairs(46, 30):
            frank = FrankBench(one)
            frank.shift((1,) * len(one[0]))
            frank.shift((-1,) * len(one[0]))
            self.assertEqual(frank.owns, FrankBench(one).owns)

    def test_while_a_batch_is_done(self):
        frank = FrankBench(F)
        seen = []

        def look(held):
            self.check_owns(held)
            seen.append(len(held.owns))

        frank.attempt((("put", (-9, 5)), ("drop", 0), ("drop", 0)), on_step=look)
        self.assertEqual(seen, [4, 3, 2])

    def test_a_bench_has_none(self):
        self.assertFalse(hasattr(Bench(F), "owns"))


class Evidence(Working):
    def test_weights_are_of_words_of_the_menu_that_there_would_be(self):
        frank = FrankBench(((4, 0), (0, 4)))
        error = self.raised(frank.put, (2, 2))
        self.assertEqual((error.word, [word for word, _ in error.weights]), (2, [0, 1]))
        self.assertTrue(covered(((4, 0), (0, 4), (2, 2)), [0, 1], (2, 2), error.weights))
        error = self.raised(frank.put, (9, 9))
        self.assertEqual((error.word, error.weights[-1][0]), (0, 2))
        self.assertTrue(covered(((4, 0), (0, 4), (9, 9)), [1, 2], (4, 0), error.weights))
        self.assertIs(type(error), NotFrank)


if __name__ == "__main__":
    unittest.main()
