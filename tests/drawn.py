"""Menus, beliefs and books, the same ones in each run, and values with one part put otherwise."""

import itertools
import math
import random

MARK = 10 ** 6
SIZES = (1, 2, 6, 40, MARK)


def prime(items):
    divisor = math.gcd(*items)
    return tuple(item // divisor for item in items)


def grid(answers, greatest):
    """Return all beliefs with items up to the greatest one."""
    found = itertools.product(range(greatest + 1), repeat=answers)
    return [items for items in found if math.gcd(*items) == 1]


def belief(rng, answers, greatest):
    while True:
        items = [rng.choice((0, 1, rng.randint(0, greatest))) for _ in range(answers)]
        if any(items):
            return prime(items)


def row(rng, answers, size):
    return tuple(rng.choice((-size, size, rng.randint(-size, size))) if rng.random() < 0.3
                 else rng.randint(-size, size) for _ in range(answers))


def mixed_row(rng, rows):
    """Return a row that is nearly a mix of two others: at it, below it or above it by 1."""
    one, other = rng.choice(rows), rng.choice(rows)
    step = rng.choice((-1, 0, 0, 1))
    return tuple((mark + less) // 2 + step for mark, less in zip(one, other))


def menu(rng, answers, words, size):
    rows = [row(rng, answers, size)]
    while len(rows) < words:
        kind = rng.random()
        if kind < 0.1:
            rows.append(rng.choice(rows))
        elif kind < 0.35:
            rows.append(tuple(max(-MARK, min(MARK, mark)) for mark in mixed_row(rng, rows)))
        else:
            rows.append(row(rng, answers, size))
    rng.shuffle(rows)
    return tuple(rows)


def menus(seed, many):
    """Return drawn menus of all numbers of answers and words in turn."""
    rng = random.Random(seed)
    shapes = list(itertools.product((2, 3, 4), range(1, 9)))
    return [menu(rng, *shapes[number % len(shapes)], rng.choice(SIZES)) for number in range(many)]


def menu_pairs(seed, many):
    """Return pairs of drawn menus with as many answers, near to each other or not."""
    rng = random.Random(seed)
    pairs = []
    for number in range(many):
        answers = 2 + number % 3
        one = menu(rng, answers, rng.randint(1, 8), rng.choice(SIZES))
        kind = number % 4
        if kind == 0:
            other = menu(rng, answers, rng.randint(1, 8), rng.choice(SIZES))
        elif kind == 1:
            other = tuple(rng.sample(one, len(one)))
        elif kind == 2:
            other = tuple(rng.sample(one, rng.randint(1, len(one))))
        else:
            spare = tuple(tuple(max(-MARK, mark - 1) for mark in each) for each in one)
            other = (one + spare)[:8]
        pairs.append((one, other))
    return pairs


SPECIAL_MENUS = (
    ((0, 0),),
    ((5, -3, 2),),
    ((1, 2),) * 8,
    ((3, 3, 3), (3, 3, 3)),
    ((3, 0), (2, 2), (0, 3)),
    ((2, 0), (0, 2), (1, 1), (1, 0)),
    ((4, 0), (0, 4), (2, 2)),
    ((4, 0), (0, 4), (2, 1)),
    ((4, 0), (0, 4), (3, 3)),
    ((4, 0), (0, 4), (1, 1)),
    ((4, 0), (4, 0), (0, 4), (0, 4)),
    ((MARK, -MARK), (-MARK, MARK), (0, 0), (1, 0), (0, -1)),
    ((MARK, MARK, MARK, MARK), (-MARK, -MARK, -MARK, -MARK)),
    ((MARK, 0, 0), (0, MARK, 0), (0, 0, MARK), (333333, 333333, 333333), (333334, 333333, 333333)),
    ((1, 0, 0, 0), (0, 1, 0, 0), (0, 0, 1, 0), (0, 0, 0, 1)),
    ((1, 0, 0, 0), (0, 1, 0, 0), (0, 0, 1, 0), (0, 0, 0, 1), (1, 1, -2, 0), (0, 0, 0, 0)),
    ((2, 2, 0, 0), (0, 0, 2, 2), (1, 1, 1, 1), (2, 0, 2, 0), (0, 2, 0, 2), (2, 0, 0, 2), (0, 2, 2, 0), (1, 1, 1, 0)),
    ((0, 0), (0, -1), (-1, 0)),
    ((0, 0, 5), (0, 0, 5), (0, 0, 4)),
    tuple((-k * k, 2 * k - 64) for k in range(8)),
)


def cutting(rng, answers, size):
    while True:
        items = [rng.randint(-size, size) for _ in range(answers)]
        if min(items) < 0 < max(items):
            return prime(items)


def leaning(rng, answers):
    sign = rng.choice((1, -1))
    while True:
        items = tuple(sign * rng.randint(0, 1) for _ in range(answers))
        if any(items):
            return items


def even(answers):
    return (0,) * answers


def border(rng, answers, size):
    kind = rng.random()
    if kind < 0.6:
        return cutting(rng, answers, size)
    return leaning(rng, answers) if kind < 0.85 else even(answers)


def word_pairs(words):
    return list(itertools.combinations(range(words), 2))


def border_of(one, other):
    apart = [mark - less for mark, less in zip(one, other)]
    if not any(apart):
        return tuple(apart)
    if min(apart) < 0 < max(apart):
        return prime(apart)
    return tuple((mark > 0) - (mark < 0) for mark in apart)


def book_of_rows(rows):
    return tuple((i, j, border_of(rows[i], rows[j])) for i, j in word_pairs(len(rows)))


def growing_rows(rng, answers, words, most):
    """Return rows of which each one is from the one before it on, shuffled: all borders lean or are even."""
    rows = [(0,) * answers]
    while len(rows) < words:
        rows.append(tuple(mark + rng.randint(0, most) for mark in rows[-1]))
    rng.shuffle(rows)
    return rows


def book(rng, kind, answers, words):
    size = rng.choice((1, 2, 5, 10 ** 30))
    if kind == "rows":
        return book_of_rows(menu(rng, answers, words, rng.choice(SIZES)))
    if kind == "growing":
        return book_of_rows(growing_rows(rng, answers, words, rng.choice((0, 1, 3))))
    if kind == "nearly":
        triples = list(book_of_rows(menu(rng, answers, words, rng.choice((1, 2, 6)))))
        at = rng.randrange(len(triples))
        triples[at] = triples[at][:2] + (border(rng, answers, size),)
        return tuple(triples)
    if kind == "cutting":
        return tuple((i, j, cutting(rng, answers, size)) for i, j in word_pairs(words))
    if kind == "leaning":
        return tuple((i, j, leaning(rng, answers)) for i, j in word_pairs(words))
    return tuple((i, j, border(rng, answers, size)) for i, j in word_pairs(words))


BOOK_KINDS = ("rows", "growing", "nearly", "cutting", "leaning", "any")


def books(seed, many):
    """Return drawn books of all kinds, numbers of answers and words in turn."""
    rng = random.Random(seed)
    shapes = list(itertools.product(BOOK_KINDS, (2, 3, 4), range(2, 7)))
    return [book(rng, *shapes[number % len(shapes)]) for number in range(many)]


EXAMPLE_R = ((0, 1, (1, -1)), (0, 2, (-1, 1)), (1, 2, (1, -1)))
EXAMPLE_W = (
    (0, 1, (1, -3)), (0, 2, (3, -5)), (0, 3, (4, -5)), (1, 2, (1, -1)), (1, 3, (5, -3)), (2, 3, (3, -1)),
)
# At (1, 1) alone word 0 is at least as good as 1, this as 2, and 2 better than 0.
ROUND_AT_ONE_BELIEF = ((0, 1, (1, -1)), (0, 2, (-1, -1)), (1, 2, (-1, 1)))
# The same at (1, 0) alone.
ROUND_AT_A_SURE_BELIEF = ((0, 1, (0, -1)), (0, 2, (-1, -1)), (1, 2, (0, 0)))
ROUND_AT_THE_LAST_ANSWER = ((0, 1, (-1, 0, 0)), (0, 2, (0, 0, -1)), (1, 2, (0, -1, 0)))
SPECIAL_BOOKS = (
    EXAMPLE_R,
    EXAMPLE_W,
    ROUND_AT_ONE_BELIEF,
    ROUND_AT_A_SURE_BELIEF,
    ROUND_AT_THE_LAST_ANSWER,
    ((0, 1, (0, 0, 0)),),
    ((0, 1, (1, -2)),),
    ((0, 1, (-1, 0, -1, -1)),),
    tuple((i, j, (0, 0, 0, 0)) for i, j in word_pairs(6)),
    tuple((i, j, (1, 1, 1, 1)) for i, j in word_pairs(6)),
    tuple((i, j, (-1, 0, 0, -1)) for i, j in word_pairs(6)),
    tuple((i, j, (1, 1, 1, 1) if (i, j) != (0, 5) else (-1, -1, -1, -1)) for i, j in word_pairs(6)),
    tuple((i, j, (1, -1) if (i, j) != (0, 5) else (-1, 1)) for i, j in word_pairs(6)),
    tuple((i, j, (3, -2, 0, -7)) for i, j in word_pairs(6)),
    tuple((i, j, (0, 0) if (i, j) != (4, 5) else (2, -1)) for i, j in word_pairs(6)),
    tuple((i, j, (10 ** 50, 1 - 10 ** 50, -1)) for i, j in word_pairs(5)),
)


def otherwise(value):
    """Yield values that are like the value, with one part of it put otherwise."""
    if isinstance(value, str):
        yield from ("", value + " ", value.upper(), "alone", "shut", "best", "never", "apart", "alike", "above", "under",
                    "marks", "balance", None, (value,))
    elif isinstance(value, int):
        yield from (value + 1, value - 1, -value, value * 2, 0, 1, 10 ** 60, None, str(value), (value,), True, False)
    elif isinstance(value, tuple):
        yield from (list(value), value + (1,), value + value[-1:], value[:-1], value[1:], value[::-1], (), None, (value,))
        for at, item in enumerate(value):
            for changed in otherwise(item):
                yield value[:at] + (changed,) + value[at + 1:]


def bowed_row(counts):
    """Return the row that is the best one at the belief of the counts, of all rows of counts with this sum."""
    less = sum(count * count for count in counts)
    return tuple(2 * sum(counts) * count - less for count in counts)


def bowed(rng, answers, words, total=12):
    """Return a drawn menu each word of which is the only best one somewhere."""
    spots = [counts for counts in itertools.product(range(total + 1), repeat=answers) if sum(counts) == total]
    return tuple(bowed_row(counts) for counts in rng.sample(spots, words))


def bowed_pairs(seed, many):
    """Return pairs of such menus with as many answers, many of whose rows are the same."""
    rng = random.Random(seed)
    pairs = []
    for number in range(many):
        answers = 2 + number % 3
        pairs.append(tuple(bowed(rng, answers, rng.randint(1, 8), 12 if answers == 2 else 4) for _ in range(2)))
    return pairs
