"""The ground of the promises: ranks, corners of sets of beliefs, and sums of columns that reach a target."""

import random
import signal
import unittest
from fractions import Fraction

import drawn
from frankmarks.cones import corners_of
from frankmarks.exact import is_fraction, is_less, primitive, rank
from frankmarks.systems import solve
from judges import independent

# With other rules for the label that comes in or the one that goes out, these never come to an end.
CIRCLES = (
    [(7, -4, -4, 0), (-8, 1, -8, -2), (8, -7, -8, 4), (-6, 6, 7, -3), (-5, -7, 5, -9)],
    [(-3, -5, -3, -1), (-3, 3, -4, -3), (5, 3, -1, -5), (2, 3, 5, 0)],
    [(7, -8, 7, 1), (3, 8, 7, -7), (2, -4, -6, 2), (0, -7, 5, -2)],
    [(2, -3, 1, -2), (-1, -2, -2, 1), (-3, -3, 3, -2), (0, 3, -2, -2)],
    [(-4, -2, 4), (9, -3, -10), (-7, -3, -6), (-2, 4, -2), (4, 6, -10)],
    [(-2, 1, -1, -2), (0, -3, 2, -2), (2, 2, 2, -2), (3, 1, -1, -3)],
    [(-8, 7, -8, -10), (1, 3, -1, -10), (8, -4, 0, -4), (-7, -6, -4, 0), (8, 1, 8, -8)],
    [(-8, -2, -5, 5), (-3, 2, 2, 1), (10, -5, -9, -5), (-5, -1, 0, -3), (-3, 3, -2, -4)],
    [(10, -10, 4, 0), (-10, 4, -9, 2), (-9, -8, -9, 6), (-4, 4, 5, -7), (-1, -3, 3, -8)],
    [(-4, -2, -5), (4, 4, -5), (-5, -3, 0), (4, -2, 0), (2, 0, 2)],
)


def dot(one, other):
    return sum(a * b for a, b in zip(one, other))


def drawn_system(rng):
    places, many, size = rng.randint(1, 6), rng.randint(0, 9), rng.choice((1, 2, 9, 10 ** 30))
    columns = [tuple(rng.randint(-size, size) for _ in range(places)) for _ in range(many)]
    if rng.random() < 0.3:
        counts = [rng.randint(0, 3) for _ in columns]
        return columns, [dot(counts, line) for line in zip(*columns)] if columns else [0] * places
    return columns, [rng.randint(-size, size) for _ in range(places)]


class Systems(unittest.TestCase):
    def check(self, columns, target):
        found = solve(columns, target)
        if found[0] == "sum":
            _, counts, times = found
            self.assertGreaterEqual(times, 1)
            self.assertEqual(len(counts), len(columns))
            self.assertGreaterEqual(min(counts, default=0), 0)
            for at, goal in enumerate(target):
                self.assertEqual(sum(count * column[at] for count, column in zip(counts, columns)), goal * times)
        else:
            self.assertEqual(found[0], "against")
            self.assertLess(dot(found[1], target), 0)
            self.assertTrue(all(dot(found[1], column) >= 0 for column in columns))
        return found[0]

    def test_a_sum_or_a_vector_against_it(self):
        rng = random.Random(30)
        said = [self.check(*drawn_system(rng)) for _ in range(1500)]
        self.assertGreater(min(said.count("sum"), said.count("against")), 300)

    def test_no_columns_and_no_places(self):
        self.assertEqual(self.check([], [0, 0]), "sum")
        self.assertEqual(self.check([], [0, -1]), "against")
        self.assertEqual(self.check([], []), "sum")
        self.assertEqual(self.check([(), ()], []), "sum")

    def test_steps_that_change_nothing_come_to_an_end(self):
        def give_up(_number, _frame):
            raise AssertionError("goes round in circles")

        before = signal.signal(signal.SIGALRM, give_up)
        signal.alarm(20)
        try:
            for columns in CIRCLES:
                places = len(columns[0])
                units = [tuple(int(at == place) for at in range(places)) for place in range(places - 1)]
                for mixed in (columns + units, units + columns):
                    self.check(mixed, [0] * (places - 1) + [1])
        finally:
            signal.alarm(0)
            signal.signal(signal.SIGALRM, before)

    def test_columns_beside_their_opposites(self):
        for size in range(1, 5):
            self.check([(1, -1)] * size + [(-1, 1)] * size, [0, 0])
            self.check([(1, -1)] * size + [(-1, 1)] * size, [1, 0])


class Cones(unittest.TestCase):
    def test_no_rows_leave_the_sure_beliefs(self):
        self.assertEqual(corners_of(3, []), ((0, 0, 1), (0, 1, 0), (1, 0, 0)))

    def test_rows_that_leave_nothing(self):
        self.assertEqual(corners_of(2, [(-1, -1)]), ())
        self.assertEqual(corners_of(2, [(1, -2), (-2, 1)]), ())

    def test_rows_of_many_digits(self):
        huge = 10 ** 5000
        self.assertEqual(corners_of(2, [(huge, -huge - 1)]), ((1, 0), (huge + 1, huge)))

    def test_the_order_of_the_rows_does_not_matter(self):
        rng = random.Random(31)
        for _ in range(60):
            answers = rng.randint(2, 5)
            rows = [drawn.row(rng, answers, 3) for _ in range(rng.randint(1, 9))]
            found = corners_of(answers, rows)
            for _ in range(3):
                self.assertEqual(corners_of(answers, rng.sample(rows, len(rows))), found)
            self.assertEqual(corners_of(answers, rows + rows), found)


class Numbers(unittest.TestCase):
    def test_ranks(self):
        rng = random.Random(32)
        for _ in range(400):
            width, size = rng.randint(1, 5), rng.choice((1, 2, 10 ** 30))
            rows = [drawn.row(rng, width, size) for _ in range(rng.randint(0, 6))]
            if len(rows) > 2:
                rows[-1] = tuple(a - 2 * b for a, b in zip(rows[0], rows[1]))
            self.assertEqual(rank(rows), independent(rows))

    def test_fractions(self):
        for value, right in (((0, 1), True), ((-3, 2), True), ((0, 2), False), ((2, 4), False), ((1, 0), False),
                             ((1, -2), False), ((1, True), False), (1, False), ((1, 2, 3), False), (None, False)):
            self.assertIs(is_fraction(value), right)
        numbers = [(a, b) for a in range(-4, 5) for b in range(1, 4)]
        for one in numbers:
            for other in numbers:
                self.assertIs(is_less(one, other), Fraction(*one) < Fraction(*other))

    def test_primitives_keep_the_signs(self):
        self.assertEqual(primitive((-4, 6)), (-2, 3))


if __name__ == "__main__":
    unittest.main()
