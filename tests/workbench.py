"""What benches answer, what they raise, and each way to change one."""

import unittest

from frankmarks.benches import FrankBench
from frankmarks.errors import FrankError, NotFrank
from frankmarks.shells import Shell
from judges import covered, lone_right, others

U = ((4, 0), (0, 4), (3, 3), (1, 1))
# Each word is the only best one somewhere, and stays so if these are dropped from its end.
F = ((4, 0), (0, 4), (3, 3))


def told(bench):
    """All that the bench answers of itself, by its present menu and its versions."""
    many = len(bench.edits())
    return {
        "edits": bench.edits(),
        "versions": list(bench.each_version()),
        "menus": [bench.menu_at(version=version) for version in range(many + 1)] + [bench.menu_at()],
        "stands": [bench.stands_at(version=version) for version in range(many + 1)] + [bench.stands_at()],
        "compared": [bench.compared(), bench.compared(since=many), bench.compared(until=0)],
        "rows": [bench[word] for word in range(len(bench))],
        "text": str(bench),
        "bool": bool(bench),
        "owns": bench.owns if isinstance(bench, FrankBench) else None,
        "shell": [Shell(bench)(command) for command in ("menu", "edits", "useful", "stands")],
    }


def plus(bench, row):
    bench += row
    return bench


def minus(bench, word):
    bench -= word
    return bench


def put_item(bench, pair, number):
    bench[pair] = number


WAYS = (
    ("put", lambda bench: bench.put((2, 1))),
    ("a wrong put", lambda bench: bench.put(None)),
    ("drop", lambda bench: bench.drop(0)),
    ("a wrong drop", lambda bench: bench.drop(99)),
    ("mark", lambda bench: bench.mark(0, 0, 1)),
    ("a wrong mark", lambda bench: bench.mark(0, 9, None)),
    ("shift", lambda bench: bench.shift((1, 1))),
    ("a wrong shift", lambda bench: bench.shift((1, 2, 3))),
    ("undo", lambda bench: bench.undo()),
    ("attempt", lambda bench: bench.attempt((("shift", (1, 1)),))),
    ("an empty attempt", lambda bench: bench.attempt(())),
    ("a wrong attempt", lambda bench: bench.attempt([])),
    ("an attempt of too much", lambda bench: bench.attempt((None,) * 21)),
    ("an attempt with on_step", lambda bench: bench.attempt((), on_step=print)),
    ("+=", lambda bench: plus(bench, (2, 1))),
    ("a wrong +=", lambda bench: plus(bench, None)),
    ("-=", lambda bench: minus(bench, 0)),
    ("a wrong -=", lambda bench: minus(bench, "0")),
    ("an item", lambda bench: put_item(bench, (0, 0), 1)),
    ("an item of no word", lambda bench: put_item(bench, (9, 0), 1)),
    ("an item of no pair", lambda bench: put_item(bench, 0, 1)),
    ("an item of three", lambda bench: put_item(bench, (0, 0, 0), 1)),
)

BUSY_COMMANDS = ("put 2,1", "put 1,2,3", "drop 0", "drop 99", "mark 0 0 1", "mark 0 9 1", "shift 1,1", "shift 1,2,3", "undo")


class Working(unittest.TestCase):
    def raised(self, call, *arguments, **named):
        """The error that the call raises, which is one of the package."""
        with self.assertRaises(FrankError) as caught:
            call(*arguments, **named)
        return caught.exception

    def check_error(self, error, expected):
        """The error has this name and these very objects as its fields."""
        self.assertEqual(type(error).__name__, expected[0])
        if isinstance(error, NotFrank):
            self.assertEqual(error.word, expected[1])
            return
        fields = list(vars(error).values())
        self.assertEqual(len(fields), len(expected) - 1)
        for field, given in zip(fields, expected[1:]):
            if type(given) is int and len(fields) == 1 and abs(given) < 100:
                self.assertEqual((type(field), field), (int, given))
            else:
                self.assertIs(field, given)

    def check_refused(self, bench, expected, call, *arguments, **named):
        """The call raises the error, and changes nothing."""
        before = told(bench)
        self.check_error(self.raised(call, *arguments, **named), expected)
        self.assertEqual(told(bench), before)

    def check_not_frank(self, error, menu, word):
        """The error tells of the first word of the menu that is shut out, and of weights that do so."""
        self.assertIs(type(error), NotFrank)
        self.assertEqual(error.word, word)
        self.assertTrue(covered(menu, others(menu, word), menu[word], error.weights))

    def check_owns(self, bench):
        menu = bench.menu_at()
        owns = bench.owns
        self.assertIs(type(owns), tuple)
        self.assertEqual(len(owns), len(menu))
        for word, belief in enumerate(owns):
            self.assertTrue(lone_right(menu, word, belief))
