"""[A2] (h), (i), [N2] to [N5]: drawn benches beside lists that are changed alike, edits done in several ways and undone."""

import random
import unittest

import drawn
from frankmarks.benches import Bench, FrankBench
from frankmarks.texts import parse_menu, row_text
from frankmarks.shells import Shell
from models import NO_EDITS, Model, any_edit, edited, first_shut, right_edit
from test_benches import do, do_otherwise
from workbench import Working, told


def commanded(bench, edit):
    """Do the edit by a command."""
    words = [edit[0], *(row_text(item) if isinstance(item, tuple) else str(item) for item in edit[1:])]
    return Shell(bench)(" ".join(words))


def benches(seed, many):
    """Yield a random source, a drawn menu and the class of a bench for it."""
    rng = random.Random(seed)
    for number in range(many):
        answers = 2 + number % 3
        if number % 2:
            yield rng, drawn.bowed(rng, answers, rng.randint(1, 8), 12 if answers == 2 else 4), FrankBench
        else:
            yield rng, drawn.menu(rng, answers, rng.randint(1, 8), rng.choice((2, 9, 40, drawn.MARK))), Bench


def drawn_edit(rng, menu, made):
    """Return an edit that can be done on such a bench; for a frank one it is tried until it leaves it frank."""
    size = max(2, max(abs(mark) for row in menu for mark in row) // 2)
    while True:
        edit = right_edit(rng, menu, size)
        if made is Bench or first_shut(edited(menu, edit)[0]) is None:
            return edit


def drawn_batch(rng, menu, made, many):
    batch = []
    for _ in range(many):
        edit = drawn_edit(rng, menu, made)
        batch.append(edit)
        menu = edited(menu, edit)[0]
    return tuple(batch)


class Ways(Working):
    def test_one_by_one_in_one_batch_and_on_a_copy(self):
        for rng, menu, made in benches(61, 60):
            batch = drawn_batch(rng, menu, made, rng.choice((1, 2, 5, 20)))
            one, signs, commands, together, copied = made(menu), made(menu), made(menu), made(menu), made(menu).copy()
            for number, edit in enumerate(batch):
                self.assertEqual(do(one, edit), number + 1)
                do_otherwise(signs, edit)
                self.assertEqual(commanded(commands, edit), f"ok {number + 1}")
                copied = copied.copy()
                self.assertEqual(do(copied, edit), number + 1)
            self.assertEqual(together.attempt(batch), len(batch))
            self.assertEqual(one.edits(), batch)
            expected = told(one)
            for bench in (signs, commands, together, copied, one.copy()):
                self.assertEqual(bench, one)
                self.assertEqual(told(bench), expected)

    def test_the_menu_alone_tells_the_answers(self):
        for rng, menu, made in benches(62, 40):
            bench = made(menu)
            bench.attempt(drawn_batch(rng, menu, made, rng.randint(1, 12)))
            fresh = made(parse_menu(str(bench)))
            self.assertEqual(bench, fresh)
            for ask in (str, bool, len, made.menu_at, made.stands_at, lambda one: [one[word] for word in range(len(one))],
                        lambda one: one.owns if made is FrankBench else None, lambda one: Shell(one)("useful"),
                        lambda one: one.compared(since=len(one.edits()))):
                self.assertEqual(ask(bench), ask(fresh))


class Undone(Working):
    def test_edits_that_are_undone_leave_nothing_behind(self):
        for rng, menu, made in benches(63, 40):
            bench = made(menu)
            bench.attempt(drawn_batch(rng, menu, made, rng.randint(0, 8)))
            before = told(bench)
            for many in (1, 4, 20):
                batch = drawn_batch(rng, bench.menu_at(), made, many)
                if rng.random() < 0.5:
                    bench.attempt(batch)
                else:
                    for edit in batch:
                        do(bench, edit)
                for _ in range(many):
                    bench.undo()
                self.assertEqual(told(bench), before)
            while bench.edits():
                bench.undo()
            self.assertEqual(told(bench), told(made(menu)))

    def test_batches_that_are_rejected_leave_nothing_behind(self):
        for rng, menu, made in benches(64, 40):
            bench = made(menu)
            bench.attempt(drawn_batch(rng, menu, made, rng.randint(0, 8)))
            before = told(bench)
            for _ in range(5):
                batch = list(drawn_batch(rng, bench.menu_at(), made, rng.randint(0, 19)))
                place = rng.randint(0, len(batch))
                batch.insert(place, rng.choice(NO_EDITS))
                self.check_error(self.raised(bench.attempt, tuple(batch)), ("Rejected", place))
                self.assertEqual(told(bench), before)


class BesideModels(Working):
    def test_all_that_is_done_comes_to_what_the_lists_say(self):
        names = set()
        for rng, menu, made in benches(65, 80):
            bench, model = made(menu), Model(menu, made is FrankBench)
            for _ in range(60):
                self.take_a_turn(rng, bench, model, names)
                self.assertEqual(bench.menu_at(), model.menus[-1])
                self.assertEqual(bench.edits(), tuple(model.edits))
            self.assertEqual(list(bench.each_version()), list(enumerate(model.menus)))
            self.assertEqual(str(bench), str(made(model.menus[-1])))
        self.assertLessEqual({"done", "NotFrank", "NoWord", "NoAnswer", "BadRow", "TooMany", "LastWord", "TooGreat",
                              "Rejected", "TooManyEdits", "NothingToUndo"}, names)

    def take_a_turn(self, rng, bench, model, names):
        kind = rng.random()
        if kind < 0.12:
            self.check_told(model.undo(), bench.undo, names)
        elif kind < 0.22:
            batch = tuple(self.drawn(rng, model.menus[-1]) for _ in range(rng.randint(0, 6)))
            self.check_told(self.attempted(model, batch), lambda: bench.attempt(batch), names)
        else:
            edit = self.drawn(rng, model.menus[-1])
            self.check_told(model.do(edit), lambda: do(bench, edit), names)

    def drawn(self, rng, menu):
        if rng.random() < 0.2:
            return ("shift", (0,) * len(menu[0]))
        if rng.random() < 0.3:
            return ("drop", rng.randint(0, len(menu)))
        return any_edit(rng, menu, rng.choice((3, 40)))

    def attempted(self, model, batch):
        many = len(model.edits)
        for index, edit in enumerate(batch):
            if isinstance(model.do(edit), tuple):
                while len(model.edits) > many:
                    model.undo()
                return ("Rejected", index)
        return len(model.edits)

    def check_told(self, expected, call, names):
        if isinstance(expected, tuple):
            names.add(expected[0])
            self.check_error(self.raised(call), expected)
        else:
            names.add("done")
            self.assertEqual(call(), expected)


if __name__ == "__main__":
    unittest.main()
